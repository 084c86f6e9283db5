import PyProof.Rows.All
import Wide.All
import OpenK.AllK
import Wide.FinOn
import Lean
import PyProof.EqAt
import PyProof.EqKinds
import PyProof.TupleCall
import PySem.SetTable
import PyProof.SetKind
import PyProof.TupleKey
import PyProof.DictKinds
import PyProof.Rows.SetFrom
import PyProof.ZipIter
import PyProof.Conv_int
import PyProof.FactsAll.str
import PyProof.EnumIter
import PyProof.Rows.SortStr
import PyProof.Rows.SortWalk
import PyProof.Rows.MinMaxN
import PyProof.ConsumeWalk
import PyProof.CollectWalk
import PyProof.WalksMore
import PyProof.CollectStr
import PyProof.Rows.SortShellK
import PyProof.Rows.SortRunsK
import KE.KSortKey
import PyProof.Rows.CallKwBuiltin
import PyProof.SumAny
import PyProof.SeqI3
import PySem.Challenge.RW_notejar_k33_looking
set_option maxHeartbeats 4000000
set_option Elab.async false
namespace G
open PySem PySem.W PyProof.Rows
noncomputable def hT (i : Nat) : Stmt := PySem.Challenge.pw_notejar_k33_looking.main.body.getD i (.Pass ⟨0, 0, 0, 0⟩)
noncomputable def hA (s : Stmt) : Arguments := match s with
 | .FunctionDef _ a _ _ _ _ _ _ _ _ => a
 | _ => { posonlyargs := [], args := [], vararg := none, kwonlyargs := [], kw_defaults := [], kwarg := none, defaults := [] }
noncomputable def hB (s : Stmt) : List Stmt := match s with
 | .FunctionDef _ _ b _ _ _ _ _ _ _ => b
 | _ => []
noncomputable def hS (s : Stmt) : Scope := match s with
 | .FunctionDef _ _ _ _ _ _ sc _ _ _ => sc
 | _ => { kind := .function, names := [], isGenerator := false, isCoroutine := false }
noncomputable abbrev kS (s : String) (t : Nat) : Value := .str (Str.ofString s) t
noncomputable abbrev kR (a : Nat) : Value := .ref a
noncomputable abbrev kI (i : Int) (t : Nat) : Value := .int i t
noncomputable abbrev kE (P : Params) (s : String) (t : Nat) (v : Value) : DictEntry := ⟨PySem.PyData.keyHash P (Str.ofString s), .str (Str.ofString s) t, v⟩
noncomputable def kF (x : String) (i : Nat) (m : String) (t c : Nat) : Obj := Obj.mk (Value.type "function") Option.none (Data.func (fnOf (Str.ofString x) (Str.ofString x) (hA (hT i)) (hB (hT i)) (hS (hT i)) .none Value.none Value.none (kS m t) Option.none (kR c) Value.none)) #[]
noncomputable def kC (x : String) (a b c : Nat) (d e f : Int) (g : Nat) (h : Int) (i j : Nat) (k l : Int) (m : Nat) : Obj := Obj.mk (Value.type "code") Option.none (Data.fields #[kS x a, kS x b, kS "/claim/cut.py" c, kI d 0, kI e 0, kI 0 0, kI 0 0, kI f 0, kR g, Value.bool Bool.true, kI h 0, kR i, Value.none, Value.none, Value.none, kR j, kI k 0, kI l 0, kS "/claim/cut.py" m]) #[]
noncomputable def kD (x : String) (a b c : Nat) (d e f : Int) (g : Nat) (h : Int) (i u v j : Nat) (k l : Int) (m : Nat) : Obj := Obj.mk (Value.type "code") Option.none (Data.fields #[kS x a, kS x b, kS "/claim/cut.py" c, kI d 0, kI e 0, kI 0 0, kI 0 0, kI f 0, kR g, Value.bool Bool.true, kI h 0, kR i, Value.none, kR u, kR v, kR j, kI k 0, kI l 0, kS "/claim/cut.py" m]) #[]
noncomputable def KKa (P : Params) : Frag := [(2, Obj.mk Value.none Option.none (Data.dict #[]) #[]),
 (3, Obj.mk (Value.type "dict") Option.none (Data.dict #[kE P "__name__" 165 (kS "law_notejar_k33_looking" 645), kE P "__doc__" 166 Value.none, kE P "__package__" 167 Value.none, kE P "__loader__" 168 (Value.builtin "__main__.__loader__#opaque"), kE P "__spec__" 169 Value.none, kE P "__annotations__" 170 (kR 6), kE P "__builtins__" 171 (kR 4), kE P "__file__" 173 (kS "/claim/cut.py" 172), kE P "__cached__" 174 Value.none, kE P "JarError" 206 (kR 24), kE P "NoTable" 222 (kR 37), kE P "NoAsk" 238 (kR 49), kE P "NoJar" 254 (kR 61), kE P "NoNumber" 270 (kR 73), kE P "is_text_of" 278 (kR 80), kE P "is_whole_number" 287 (kR 87), kE P "is_tuple_of" 295 (kR 94), kE P "FIGURES" 299 (kS "0123456789" 298), kE P "LABEL_SIGNS" 301 (kS "abcdefghijklmnopqrstuvwxyz0123456789-" 300), kE P "LONGEST_LABEL" 303 (kI 8 302), kE P "MOST_LABELS" 305 (kI 5 304), kE P "MOST_RULES" 307 (kI 8 306), kE P "is_label" 314 (kR 101), kE P "is_name" 320 (kR 106), kE P "is_rule" 327 (kR 113), kE P "is_table" 333 (kR 118), kE P "need_table" 340 (kR 125), kE P "lies_within" 348 (kR 132), kE P "ends_longest_first" 354 (kR 137), kE P "behind_first_dot" 361 (kR 144), kE P "is_told_open" 369 (kR 151), kE P "find_open_end" 379 (kR 158), kE P "find_own_end" 390 (kR 165), kE P "PATH_SIGNS" 394 (kS "abcdefghijklmnopqrstuvwxyz0123456789-_./" 393), kE P "LONGEST_PATH" 396 (kI 20 395), kE P "is_path" 403 (kR 172), kE P "lies_under" 411 (kR 179), kE P "LAST_MOMENT" 415 (kI 9999 414), kE P "ASK_SAFE" 417 (kI 0 416), kE P "ASK_HOUSE" 419 (kI 1 418), kE P "ASK_PATH" 421 (kI 2 420), kE P "ASK_ORIGIN" 423 (kI 3 422), kE P "ASK_PARTS" 425 (kI 4 424), kE P "is_moment" 432 (kR 186), kE P "is_moment_or_none" 439 (kR 193), kE P "need_moment" 446 (kR 200), kE P "is_ask" 453 (kR 207), kE P "comes_from_near" 464 (kR 214), kE P "NOTE_NAME_SIGNS" 468 (kS "abcdefghijklmnopqrstuvwxyzABCDEFGHIJKLMNOPQRSTUVWXYZ0123456789-_" 467), kE P "LONGEST_NOTE_NAME" 470 (kI 10 469), kE P "NO_WORTH_SIGNS" 472 (kS ";,=" 471), kE P "LONGEST_WORTH" 474 (kI 12 473), kE P "is_note_name" 481 (kR 221), kE P "is_worth" 487 (kR 226), kE P "is_reach" 494 (kR 233), kE P "NOTE_NAME" 498 (kI 0 497), kE P "NOTE_WORTH" 500 (kI 1 499), kE P "NOTE_HOUSE" 502 (kI 2 501), kE P "NOTE_EXACT" 504 (kI 3 503), kE P "NOTE_PATH" 506 (kI 4 505), kE P "NOTE_ENDS" 508 (kI 5 507), kE P "NOTE_SAFE" 510 (kI 6 509), kE P "NOTE_REACH" 512 (kI 7 511), kE P "NOTE_MADE" 514 (kI 8 513), kE P "NOTE_USED" 516 (kI 9 515), kE P "NOTE_PARTS" 518 (kI 10 517), kE P "is_note" 525 (kR 240), kE P "key" 532 (kR 247), kE P "has_ended" 540 (kR 254), kE P "is_for" 548 (kR 261), kE P "goes" 558 (kR 268), kE P "MOST_NOTES" 562 (kI 20 561), kE P "is_jar" 568 (kR 273), kE P "is_by_made" 574 (kR 278), kE P "has_no_key_twice" 580 (kR 283), kE P "need_jar" 587 (kR 290), kE P "group_of" 598 (kR 297), kE P "groups" 604 (kR 302), kE P "MOST_ASKS" 608 (kI 9 607), kE P "by_group" 614 (kR 307), kE P "keys_of_group" 620 (kR 312), kE P "ending" 626 (kR 317), kE P "is_list_of_asks" 632 (kR 322), kE P "along" 638 (kR 327), kE P "asks_of" 644 (kR 332), kE P "_law_cell" 654 (kR 339), kE P "_law_drawn" 664 (kR 346), kE P "_law_name" 673 (kR 353), kE P "_law_table" 679 (kR 358), kE P "_law_path" 688 (kR 365), kE P "_law_ask" 697 (kR 372), kE P "_law_jar" 703 (kR 377), kE P "_law_ends" 709 (kR 382), kE P "_law_open" 715 (kR 387), kE P "_law_own" 721 (kR 392), kE P "_law_within" 729 (kR 399), kE P "_law_under" 737 (kR 406), kE P "_law_near" 745 (kR 413), kE P "_law_group" 754 (kR 420), kE P "_law_goes" 764 (kR 427), kE P "_law_key" 771 (kR 434), kE P "_law_refused" 779 (kR 441), kE P "_law_told" 791 (kR 448), kE P "law" 797 (kR 453)] 104) #[]),
 (23, Obj.mk (Value.type "dict") Option.none (Data.dict #[kE P "__module__" 196 (kS "notejar.errors" 187), kE P "__firstlineno__" 200 (kI 2 199), kE P "__static_attributes__" 201 (kR 22), kE P "__weakref__" 203 (kR 25), kE P "__doc__" 204 Value.none] 3) #[]),
 (24, Obj.mk (Value.type "type") Option.none (Data.cls (PySem.ClassData.mk (Str.ofString "JarError") [Value.type "ValueError"] [kR 24, Value.type "ValueError", Value.type "Exception", Value.type "BaseException", Value.type "object"] 23 (Str.ofString "JarError") Bool.true [] [kR 37, kR 49, kR 61, kR 73] Bool.false Option.none Bool.false)) #[Option.some (kR 15), Option.none, Option.some (kS "JarError" 189), Option.some (kS "JarError" 197), Option.some (Value.builtin "ValueError.__new__"), Option.some (Value.bool Bool.true)]),
 (36, Obj.mk (Value.type "dict") Option.none (Data.dict #[kE P "__module__" 214 (kS "notejar.errors" 187), kE P "__firstlineno__" 218 (kI 4 217), kE P "__static_attributes__" 219 (kR 35), kE P "__doc__" 220 Value.none] 2) #[]),
 (37, Obj.mk (Value.type "type") Option.none (Data.cls (PySem.ClassData.mk (Str.ofString "NoTable") [kR 24] [kR 37, kR 24, Value.type "ValueError", Value.type "Exception", Value.type "BaseException", Value.type "object"] 36 (Str.ofString "NoTable") Bool.true [] [] Bool.false Option.none Bool.false)) #[Option.some (kR 28), Option.none, Option.some (kS "NoTable" 207), Option.some (kS "NoTable" 215), Option.some (Value.builtin "ValueError.__new__"), Option.some (Value.bool Bool.true)]),
 (48, Obj.mk (Value.type "dict") Option.none (Data.dict #[kE P "__module__" 230 (kS "notejar.errors" 187), kE P "__firstlineno__" 234 (kI 6 233), kE P "__static_attributes__" 235 (kR 47), kE P "__doc__" 236 Value.none] 2) #[]),
 (49, Obj.mk (Value.type "type") Option.none (Data.cls (PySem.ClassData.mk (Str.ofString "NoAsk") [kR 24] [kR 49, kR 24, Value.type "ValueError", Value.type "Exception", Value.type "BaseException", Value.type "object"] 48 (Str.ofString "NoAsk") Bool.true [] [] Bool.false Option.none Bool.false)) #[Option.some (kR 40), Option.none, Option.some (kS "NoAsk" 223), Option.some (kS "NoAsk" 231), Option.some (Value.builtin "ValueError.__new__"), Option.some (Value.bool Bool.true)]),
 (60, Obj.mk (Value.type "dict") Option.none (Data.dict #[kE P "__module__" 246 (kS "notejar.errors" 187), kE P "__firstlineno__" 250 (kI 8 249), kE P "__static_attributes__" 251 (kR 59), kE P "__doc__" 252 Value.none] 2) #[]),
 (61, Obj.mk (Value.type "type") Option.none (Data.cls (PySem.ClassData.mk (Str.ofString "NoJar") [kR 24] [kR 61, kR 24, Value.type "ValueError", Value.type "Exception", Value.type "BaseException", Value.type "object"] 60 (Str.ofString "NoJar") Bool.true [] [] Bool.false Option.none Bool.false)) #[Option.some (kR 52), Option.none, Option.some (kS "NoJar" 239), Option.some (kS "NoJar" 247), Option.some (Value.builtin "ValueError.__new__"), Option.some (Value.bool Bool.true)]),
 (72, Obj.mk (Value.type "dict") Option.none (Data.dict #[kE P "__module__" 262 (kS "notejar.errors" 187), kE P "__firstlineno__" 266 (kI 10 265), kE P "__static_attributes__" 267 (kR 71), kE P "__doc__" 268 Value.none] 2) #[]),
 (73, Obj.mk (Value.type "type") Option.none (Data.cls (PySem.ClassData.mk (Str.ofString "NoNumber") [kR 24] [kR 73, kR 24, Value.type "ValueError", Value.type "Exception", Value.type "BaseException", Value.type "object"] 72 (Str.ofString "NoNumber") Bool.true [] [] Bool.false Option.none Bool.false)) #[Option.some (kR 64), Option.none, Option.some (kS "NoNumber" 255), Option.some (kS "NoNumber" 263), Option.some (Value.builtin "ValueError.__new__"), Option.some (Value.bool Bool.true)]),
 (79, kC "is_text_of" 273 274 275 13 4 3 76 181 77 78 276 13 277),
 (80, kF "is_text_of" 7 "notejar.kinds" 271 79),
 (86, kD "is_whole_number" 279 280 281 19 3 3 81 181 82 83 84 85 285 19 286),
 (87, kF "is_whole_number" 8 "notejar.kinds" 271 86),
 (93, kD "is_tuple_of" 288 289 290 23 2 3 88 181 89 90 91 92 293 23 294),
 (94, kF "is_tuple_of" 9 "notejar.kinds" 271 93),
 (100, kD "is_label" 308 309 310 31 1 3 95 181 96 97 98 99 312 31 313),
 (101, kF "is_label" 16 "notejar.names" 296 100),
 (105, kC "is_name" 315 316 317 35 1 3 102 181 103 104 318 35 319),
 (106, kF "is_name" 17 "notejar.names" 296 105),
 (112, kD "is_rule" 321 322 323 42 1 3 107 181 108 109 110 111 325 42 326),
 (113, kF "is_rule" 18 "notejar.names" 296 112),
 (117, kC "is_table" 328 329 330 50 1 3 114 181 115 116 331 50 332),
 (118, kF "is_table" 19 "notejar.names" 296 117),
 (124, kD "need_table" 334 335 336 56 1 3 119 181 120 121 122 123 338 56 339),
 (125, kF "need_table" 20 "notejar.names" 296 124),
 (131, kD "lies_within" 341 342 343 59 2 3 126 181 127 128 129 130 346 59 347),
 (132, kF "lies_within" 21 "notejar.names" 296 131),
 (136, kC "ends_longest_first" 349 350 351 61 1 3 133 181 134 135 352 61 353),
 (137, kF "ends_longest_first" 22 "notejar.names" 296 136),
 (143, kD "behind_first_dot" 355 356 357 64 1 3 138 181 139 140 141 142 359 64 360),
 (144, kF "behind_first_dot" 23 "notejar.names" 296 143),
 (150, kD "is_told_open" 362 363 364 66 2 3 145 181 146 147 148 149 367 66 368),
 (151, kF "is_told_open" 24 "notejar.names" 296 150),
 (157, kD "find_open_end" 370 371 372 70 2 3 152 181 153 154 155 156 377 70 378),
 (158, kF "find_open_end" 25 "notejar.names" 296 157),
 (164, kD "find_own_end" 380 381 382 79 2 3 159 181 160 161 162 163 388 79 389),
 (165, kF "find_own_end" 26 "notejar.names" 296 164),
 (171, kD "is_path" 397 398 399 89 1 3 166 181 167 168 169 170 401 89 402),
 (172, kF "is_path" 30 "notejar.paths" 391 171),
 (178, kD "lies_under" 404 405 406 91 2 3 173 181 174 175 176 177 409 91 410),
 (179, kF "lies_under" 31 "notejar.paths" 391 178),
 (185, kD "is_moment" 426 427 428 104 1 3 180 181 181 182 183 184 430 104 431),
 (186, kF "is_moment" 39 "notejar.asks" 412 185),
 (192, kD "is_moment_or_none" 433 434 435 106 1 3 187 181 188 189 190 191 437 106 438),
 (193, kF "is_moment_or_none" 40 "notejar.asks" 412 192),
 (199, kD "need_moment" 440 441 442 108 1 3 194 181 195 196 197 198 444 108 445),
 (200, kF "need_moment" 41 "notejar.asks" 412 199),
 (206, kD "is_ask" 447 448 449 111 1 3 201 181 202 203 204 205 451 111 452),
 (207, kF "is_ask" 42 "notejar.asks" 412 206),
 (213, kD "comes_from_near" 454 455 456 115 2 3 208 181 209 210 211 212 462 115 463),
 (214, kF "comes_from_near" 43 "notejar.asks" 412 213),
 (220, kD "is_note_name" 475 476 477 127 1 3 215 181 216 217 218 219 479 127 480),
 (221, kF "is_note_name" 49 "notejar.giving" 465 220),
 (225, kC "is_worth" 482 483 484 129 1 3 222 181 223 224 485 129 486),
 (226, kF "is_worth" 50 "notejar.giving" 465 225),
 (232, kD "is_reach" 488 489 490 133 1 3 227 181 228 229 230 231 492 133 493),
 (233, kF "is_reach" 51 "notejar.giving" 465 232),
 (239, kD "is_note" 519 520 521 147 1 3 234 181 235 236 237 238 523 147 524),
 (240, kF "is_note" 64 "notejar.notes" 495 239),
 (246, kD "key" 526 527 528 153 1 3 241 181 242 243 244 245 530 153 531),
 (247, kF "key" 65 "notejar.notes" 495 246),
 (253, kD "has_ended" 533 534 535 155 2 3 248 181 249 250 251 252 538 155 539),
 (254, kF "has_ended" 66 "notejar.notes" 495 253)]
noncomputable def KKb (P : Params) : Frag := [(260, kD "is_for" 541 542 543 157 2 3 255 181 256 257 258 259 546 157 547),
 (261, kF "is_for" 67 "notejar.notes" 495 260),
 (267, kD "goes" 549 550 551 161 4 3 262 181 263 264 265 266 556 161 557),
 (268, kF "goes" 68 "notejar.notes" 495 267),
 (272, kC "is_jar" 563 564 565 171 1 3 269 181 270 271 566 171 567),
 (273, kF "is_jar" 71 "notejar.jars" 559 272),
 (277, kC "is_by_made" 569 570 571 177 1 3 274 181 275 276 572 177 573),
 (278, kF "is_by_made" 72 "notejar.jars" 559 277),
 (282, kC "has_no_key_twice" 575 576 577 179 1 3 279 181 280 281 578 179 579),
 (283, kF "has_no_key_twice" 73 "notejar.jars" 559 282),
 (289, kD "need_jar" 581 582 583 182 1 3 284 181 285 286 287 288 585 182 586),
 (290, kF "need_jar" 74 "notejar.jars" 559 289),
 (296, kD "group_of" 590 591 592 186 2 3 291 181 292 293 294 295 596 186 597),
 (297, kF "group_of" 76 "notejar.room" 588 296),
 (301, kC "groups" 599 600 601 191 2 3 298 181 299 300 602 191 603),
 (302, kF "groups" 77 "notejar.room" 588 301),
 (306, kC "by_group" 609 610 611 198 2 3 303 181 304 305 612 198 613),
 (307, kF "by_group" 80 "notejar.looking" 605 306),
 (311, kC "keys_of_group" 615 616 617 200 3 3 308 181 309 310 618 200 619),
 (312, kF "keys_of_group" 81 "notejar.looking" 605 311),
 (316, kC "ending" 621 622 623 202 3 3 313 181 314 315 624 202 625),
 (317, kF "ending" 82 "notejar.looking" 605 316),
 (321, kC "is_list_of_asks" 627 628 629 207 1 3 318 181 319 320 630 207 631),
 (322, kF "is_list_of_asks" 83 "notejar.looking" 605 321),
 (326, kC "along" 633 634 635 211 4 3 323 181 324 325 636 211 637),
 (327, kF "along" 84 "notejar.looking" 605 326),
 (331, kC "asks_of" 639 640 641 218 4 3 328 181 329 330 642 218 643),
 (332, kF "asks_of" 85 "notejar.looking" 605 331),
 (338, kD "_law_cell" 647 648 649 221 2 3 333 181 334 335 336 337 652 221 653),
 (339, kF "_law_cell" 87 "law_notejar_k33_looking" 645 338),
 (345, kD "_law_drawn" 655 656 657 225 3 3 340 181 341 342 343 344 662 225 663),
 (346, kF "_law_drawn" 88 "law_notejar_k33_looking" 645 345),
 (352, kD "_law_name" 665 666 667 229 2 3 347 181 348 349 350 351 671 229 672),
 (353, kF "_law_name" 89 "law_notejar_k33_looking" 645 352),
 (357, kC "_law_table" 674 675 676 233 2 3 354 181 355 356 677 233 678),
 (358, kF "_law_table" 90 "law_notejar_k33_looking" 645 357),
 (364, kD "_law_path" 680 681 682 236 2 3 359 181 360 361 362 363 686 236 687),
 (365, kF "_law_path" 91 "law_notejar_k33_looking" 645 364),
 (371, kD "_law_ask" 689 690 691 239 2 3 366 181 367 368 369 370 695 239 696),
 (372, kF "_law_ask" 92 "law_notejar_k33_looking" 645 371),
 (376, kC "_law_jar" 698 699 700 242 3 3 373 181 374 375 701 242 702),
 (377, kF "_law_jar" 93 "law_notejar_k33_looking" 645 376),
 (381, kC "_law_ends" 704 705 706 260 1 3 378 181 379 380 707 260 708),
 (382, kF "_law_ends" 94 "law_notejar_k33_looking" 645 381),
 (386, kC "_law_open" 710 711 712 263 2 3 383 181 384 385 713 263 714),
 (387, kF "_law_open" 95 "law_notejar_k33_looking" 645 386),
 (391, kC "_law_own" 716 717 718 270 2 3 388 181 389 390 719 270 720),
 (392, kF "_law_own" 96 "law_notejar_k33_looking" 645 391),
 (398, kD "_law_within" 722 723 724 274 2 3 393 181 394 395 396 397 727 274 728),
 (399, kF "_law_within" 97 "law_notejar_k33_looking" 645 398),
 (405, kD "_law_under" 730 731 732 276 2 3 400 181 401 402 403 404 735 276 736),
 (406, kF "_law_under" 98 "law_notejar_k33_looking" 645 405),
 (412, kD "_law_near" 738 739 740 278 2 3 407 181 408 409 410 411 743 278 744),
 (413, kF "_law_near" 99 "law_notejar_k33_looking" 645 412),
 (419, kD "_law_group" 746 747 748 282 2 3 414 181 415 416 417 418 752 282 753),
 (420, kF "_law_group" 100 "law_notejar_k33_looking" 645 419),
 (426, kD "_law_goes" 755 756 757 285 4 3 421 181 422 423 424 425 762 285 763),
 (427, kF "_law_goes" 101 "law_notejar_k33_looking" 645 426),
 (433, kD "_law_key" 765 766 767 293 1 3 428 181 429 430 431 432 769 293 770),
 (434, kF "_law_key" 102 "law_notejar_k33_looking" 645 433),
 (440, kD "_law_refused" 772 773 774 295 1 3 435 181 436 437 438 439 777 295 778),
 (441, kF "_law_refused" 103 "law_notejar_k33_looking" 645 440),
 (447, kD "_law_told" 780 781 782 301 5 3 442 181 443 444 445 446 789 301 790),
 (448, kF "_law_told" 104 "law_notejar_k33_looking" 645 447),
 (452, kC "law" 792 793 794 308 1 3 449 181 450 451 795 308 796),
 (453, kF "law" 105 "law_notejar_k33_looking" 645 452)]
noncomputable def KK (P : Params) : Frag := KKa P ++ KKb P
noncomputable def KAa : List Addr := [2, 3, 23, 24, 36, 37, 48, 49, 60, 61, 72, 73, 79, 80, 86, 87, 93, 94, 100, 101, 105, 106, 112, 113, 117, 118, 124, 125, 131, 132, 136, 137, 143, 144, 150, 151, 157, 158, 164, 165, 171, 172, 178, 179, 185, 186, 192, 193, 199, 200, 206, 207, 213, 214, 220, 221, 225, 226, 232, 233, 239, 240, 246, 247, 253, 254]
noncomputable def KAb : List Addr := [260, 261, 267, 268, 272, 273, 277, 278, 282, 283, 289, 290, 296, 297, 301, 302, 306, 307, 311, 312, 316, 317, 321, 322, 326, 327, 331, 332, 338, 339, 345, 346, 352, 353, 357, 358, 364, 365, 371, 372, 376, 377, 381, 382, 386, 387, 391, 392, 398, 399, 405, 406, 412, 413, 419, 420, 426, 427, 433, 434, 440, 441, 447, 448, 452, 453]
noncomputable def KA : List Addr := KAa ++ KAb
theorem KA_ok (P : Params) : KA = (KK P).map (·.1) := by kernel_rfl
noncomputable def VQ : Program := view PySem.Challenge.pw_notejar_k33_looking [105]
theorem hbr : PySem.Challenge.rw_notejar_k33_looking.row.prog.bare := ⟨rfl, rfl, rfl, rfl, rfl, by decide +kernel⟩
set_option maxRecDepth 100000 in
theorem hld (h : PySem.Challenge.rw_notejar_k33_looking.row.wellSaid = true → PySem.Challenge.rw_notejar_k33_looking.row.Holds) : PySem.Challenge.rw_notejar_k33_looking.Holds := by
 w_on; o_law
 exact h (by assumption)
noncomputable def VL : List Str := [Str.ofString "JarError", Str.ofString "NoTable", Str.ofString "NoAsk", Str.ofString "NoJar", Str.ofString "NoNumber", Str.ofString "is_text_of", Str.ofString "is_whole_number", Str.ofString "is_tuple_of", Str.ofString "FIGURES", Str.ofString "LABEL_SIGNS", Str.ofString "LONGEST_LABEL", Str.ofString "MOST_LABELS", Str.ofString "MOST_RULES", Str.ofString "is_label", Str.ofString "is_name", Str.ofString "is_rule", Str.ofString "is_table", Str.ofString "need_table", Str.ofString "lies_within", Str.ofString "ends_longest_first", Str.ofString "behind_first_dot", Str.ofString "is_told_open", Str.ofString "find_open_end", Str.ofString "find_own_end", Str.ofString "PATH_SIGNS", Str.ofString "LONGEST_PATH", Str.ofString "is_path", Str.ofString "lies_under", Str.ofString "LAST_MOMENT", Str.ofString "ASK_SAFE", Str.ofString "ASK_HOUSE", Str.ofString "ASK_PATH", Str.ofString "ASK_ORIGIN", Str.ofString "ASK_PARTS", Str.ofString "is_moment", Str.ofString "is_moment_or_none", Str.ofString "need_moment", Str.ofString "is_ask", Str.ofString "comes_from_near", Str.ofString "NOTE_NAME_SIGNS", Str.ofString "LONGEST_NOTE_NAME", Str.ofString "NO_WORTH_SIGNS", Str.ofString "LONGEST_WORTH", Str.ofString "is_note_name", Str.ofString "is_worth", Str.ofString "is_reach", Str.ofString "NOTE_NAME", Str.ofString "NOTE_WORTH", Str.ofString "NOTE_HOUSE", Str.ofString "NOTE_EXACT", Str.ofString "NOTE_PATH", Str.ofString "NOTE_ENDS", Str.ofString "NOTE_SAFE", Str.ofString "NOTE_REACH", Str.ofString "NOTE_MADE", Str.ofString "NOTE_USED", Str.ofString "NOTE_PARTS", Str.ofString "is_note", Str.ofString "key", Str.ofString "has_ended", Str.ofString "is_for", Str.ofString "goes", Str.ofString "MOST_NOTES", Str.ofString "is_jar", Str.ofString "is_by_made", Str.ofString "has_no_key_twice", Str.ofString "need_jar", Str.ofString "group_of", Str.ofString "groups", Str.ofString "MOST_ASKS", Str.ofString "by_group", Str.ofString "keys_of_group", Str.ofString "ending", Str.ofString "is_list_of_asks", Str.ofString "along", Str.ofString "asks_of", Str.ofString "_law_cell", Str.ofString "_law_drawn", Str.ofString "_law_name", Str.ofString "_law_table", Str.ofString "_law_path", Str.ofString "_law_ask", Str.ofString "_law_jar", Str.ofString "_law_ends", Str.ofString "_law_open", Str.ofString "_law_own", Str.ofString "_law_within", Str.ofString "_law_under", Str.ofString "_law_near", Str.ofString "_law_group", Str.ofString "_law_goes", Str.ofString "_law_key", Str.ofString "_law_refused", Str.ofString "_law_told"]
theorem DS {α β γ : Type} {o : Option α} {f : α → β} {g : α → γ} {a : β} {b : γ} (h1 : o.map f = some a) (h2 : o.map g = some b) : o.map (fun s => (f s, g s)) = some (a, b) := by
 cases o with
 | none => cases h1
 | some x => cases h1; cases h2; rfl
set_option maxRecDepth 100000 in
theorem Bf (w : World) : (openEnds treeTable PySem.Challenge.pw_notejar_k33_looking w 6390).map (openSeen VQ VL (importedModules PySem.Challenge.pw_notejar_k33_looking.main.body) (fun s => recOk [] s) true) = some (openGood VQ VL) := by kernel_rfl
set_option maxRecDepth 100000 in
theorem xD (w : World) : (openEnds treeTable PySem.Challenge.pw_notejar_k33_looking w 6390).map (fun s => KAa.map s.heap.get?) = some ((KKa w.params).map fun p => some p.2) := by kernel_rfl
set_option maxRecDepth 100000 in
theorem xE (w : World) : (openEnds treeTable PySem.Challenge.pw_notejar_k33_looking w 6390).map (fun s => KAb.map s.heap.get?) = some ((KKb w.params).map fun p => some p.2) := by kernel_rfl
theorem rN {α β γ : Type} {o : Option α} {f : α → β → γ} {A B : List β} {X Y : List γ} (h1 : o.map (fun s => A.map (f s)) = some X) (h2 : o.map (fun s => B.map (f s)) = some Y) : o.map (fun s => (A ++ B).map (f s)) = some (X ++ Y) := by
 cases o with
 | none => cases h1
 | some x => cases h1; cases h2; simp
theorem Bg (w : World) : (openEnds treeTable PySem.Challenge.pw_notejar_k33_looking w 6390).map (fun s => KA.map s.heap.get?) = some ((KK w.params).map fun p => some p.2) := by
 show (openEnds treeTable PySem.Challenge.pw_notejar_k33_looking w 6390).map (fun s => (KAa ++ KAb).map s.heap.get?) = some ((KKa w.params ++ KKb w.params).map fun p => some p.2)
 rw [List.map_append]
 exact rN (f := fun s : Shared => s.heap.get?) (xD w) (xE w)
theorem left : LeftO PySem.Challenge.pw_notejar_k33_looking VQ VL (fun s => recOk [] s) (Hook.obs (kHook KK KA KA_ok)) (Hook.val (kHook KK KA KA_ok)) 6390 := fun w => DS (Bf w) (Bg w)
end G
set_option Elab.async false
set_option linter.all false
set_option maxRecDepth 100000
namespace L2
open PySem PySem.Spec PyProof.Rows
abbrev Key := Sum Int Str
def xF : Key → Value → Bool
 | .inl k, v => Value.isInt k v
 | .inr x, v => Value.isStrOf x v
def DT (w : World) : Key → Int
 | .inl k => hashInt k
 | .inr x => hashStr w x
theorem bp : ∀ {k : Key} {v : Value}, xF k v = true → (∃ i t, k = Sum.inl i ∧ v = Value.int i t) ∨ (∃ x t, k = Sum.inr x ∧ v = Value.str x t)
 | .inl i, v, h => by
  obtain ⟨t, e⟩ := Value.isInt_shape (k := i) (v := v) h
  exact .inl ⟨i, t, rfl, e⟩
 | .inr x, v, h => by
  obtain ⟨t, e⟩ := Value.isStrOf_shape (x := x) (v := v) h
  exact .inr ⟨x, t, rfl, e⟩
theorem xG (a b : Int) : decide ((Sum.inl a : Key) = Sum.inl b) = (a == b) := by
 by_cases e : a = b
 · subst e; simp
 · have h : ¬ (Sum.inl a : Key) = Sum.inl b := fun q => e (Sum.inl.inj q)
   rw [decide_eq_false h]
   exact (beq_eq_false_iff_ne.mpr e).symm
theorem xH (a b : Str) : decide ((Sum.inr a : Key) = Sum.inr b) = decide (a = b) := by
 by_cases e : a = b
 · subst e; simp
 · have h : ¬ (Sum.inr a : Key) = Sum.inr b := fun q => e (Sum.inr.inj q)
   rw [decide_eq_false h, decide_eq_false e]
theorem xI (a : Int) (b : Str) : decide ((Sum.inl a : Key) = Sum.inr b) = false := decide_eq_false (fun q => nomatch q)
theorem xJ (a : Str) (b : Int) : decide ((Sum.inr a : Key) = Sum.inl b) = false := decide_eq_false (fun q => nomatch q)
def oH (prog : Program) (w : World) : PySem.KeyKind prog w Key where
 is := xF
 hash := DT w
 inj := fun v a b ha hb => by
  rcases bp ha with ⟨i, t, rfl, rfl⟩ | ⟨x, t, rfl, rfl⟩
  · rcases bp hb with ⟨j, u, rfl, e⟩ | ⟨y, u, rfl, e⟩
    · injection e with e1 _; rw [e1]
    · exact nomatch e
  · rcases bp hb with ⟨j, u, rfl, e⟩ | ⟨y, u, rfl, e⟩
    · exact nomatch e
    · injection e with e1 _; rw [e1]
 byValue := fun k v h => by
  rcases bp h with ⟨i, t, rfl, rfl⟩ | ⟨x, t, rfl, rfl⟩ <;> rfl
 pyHash := fun hv h => by
  rcases bp hv with ⟨i, t, rfl, rfl⟩ | ⟨x, t, rfl, rfl⟩
  · exact wpAny_pyHash_int h
  · exact wpAny_pyHash_str h
 eqBool := fun hu hv h => by
  rcases bp hu with ⟨i, t, rfl, rfl⟩ | ⟨x, t, rfl, rfl⟩
  · rcases bp hv with ⟨j, u, rfl, rfl⟩ | ⟨y, u, rfl, rfl⟩
    · rw [xG] at h; exact wpAny_eqBool_int h
    · rw [xI] at h; exact SeqAt.EqAt.int_str i t y u _ _ _ _ h
  · rcases bp hv with ⟨j, u, rfl, rfl⟩ | ⟨y, u, rfl, rfl⟩
    · rw [xJ] at h; exact SeqAt.EqAt.str_int x t j u _ _ _ _ h
    · rw [xH] at h; exact wpAny_eqBool_str h
 «strs» := fun k x t v h => by
  rcases bp h with ⟨i, u, rfl, e⟩ | ⟨y, u, rfl, e⟩
  · exact nomatch e
  · injection e with e1 _
    subst e1
    cases v <;> rfl
inductive V where
 | non | bl (b : Bool) | int (i : Int) | str (x : Str) | byt (b : Array UInt8) | flt (b : UInt64) | ref (a : Addr) | ty (n : String)
 deriving DecidableEq
def RelV : V → Value → Prop
 | .non, u => u = Value.none
 | .bl b, u => u = Value.bool b
 | .int i, u => ∃ t, u = Value.int i t
 | .str x, u => ∃ t, u = Value.str x t
 | .byt b, u => ∃ t, u = Value.bytes b t
 | .flt b, u => ∃ t, u = Value.float b t
 | .ref a, u => u = Value.ref a
 | .ty n, u => u = Value.type n
abbrev Vals : List V → List Value → Prop := Paired RelV
theorem Vals.length {xs : List V} {us : List Value} (r : Vals xs us) : xs.length = us.length := Paired.length r
theorem Vals.get : ∀ {xs : List V} {us : List Value} {i : Nat} {x : V}, Vals xs us → xs[i]? = some x → ∃ u, us[i]? = some u ∧ RelV x u
 | _, _, _, _, .nil, e => by simp at e
 | _, _, 0, _, .cons r _, e => by simp at e; subst e; exact ⟨_, rfl, r⟩
 | _, _, i + 1, x, .cons _ t, e => by
  obtain ⟨u, h1, h2⟩ := Vals.get (i := i) (x := x) t (by simpa using e)
  exact ⟨u, by simpa using h1, h2⟩
theorem Vals.set {x : V} {u : Value} (r : RelV x u) : ∀ {xs : List V} {us : List Value} (i : Nat), Vals xs us → Vals (xs.set i x) (us.set i u)
 | _, _, _, .nil => .nil
 | _, _, 0, .cons _ t => .cons r t
 | _, _, i + 1, .cons q t => .cons q (Vals.set r i t)
theorem Vals.append : ∀ {xs ys : List V} {us ws : List Value}, Vals xs us → Vals ys ws → Vals (xs ++ ys) (us ++ ws)
 | _, _, _, _, .nil, s => s
 | _, _, _, _, .cons r t, s => .cons r (Vals.append t s)
theorem Vals.take : ∀ {xs : List V} {us : List Value} (n : Nat), Vals xs us → Vals (xs.take n) (us.take n)
 | _, _, 0, _ => .nil
 | _, _, _ + 1, .nil => .nil
 | _, _, n + 1, .cons r t => .cons r (Vals.take n t)
theorem Vals.drop : ∀ {xs : List V} {us : List Value} (n : Nat), Vals xs us → Vals (xs.drop n) (us.drop n)
 | _, _, 0, r => r
 | _, _, _ + 1, .nil => .nil
 | _, _, n + 1, .cons _ t => Vals.drop n t
def Bh : Option V → Option Value → Prop
 | some v, some u => RelV v u
 | none, none => True
 | _, _ => False
def KV {κ : Type} : List (κ × V) → List (κ × Value) → Prop := Paired fun (p : κ × V) (q : κ × Value) => p.1 = q.1 ∧ RelV p.2 q.2
def kV : Key → V
 | .inl i => .int i
 | .inr x => .str x
inductive HO where
 | lst (xs : List V)
 | tup (xs : List V)
 | dK (kvs : List (Key × V)) | dT (kvs : List (List Key × V))
 | set (S : Int → Bool) (n : Nat)
 | ins (C dx : Addr) (fs : List (Str × V))
 | own (x : Addr)
 | xd (fs : List (Str × V))
 | met (f x : Addr)
 | rng (lo hi : Int)
 | frz (o : Obj) (u : HO)
 | tbl (ps : Array Value)
 | ext (φ : Heap → Prop)
abbrev Hp := Addr → Option HO
def upd (H : Hp) (a : Addr) (o : HO) : Hp := fun b => if b = a then some o else H b
theorem av {H : Hp} {a : Addr} {o : HO} : upd H a o a = some o := by unfold upd; rw [if_pos rfl]
theorem az {H : Hp} {a b : Addr} {o : HO} (h : b ≠ a) : upd H a o b = H b := by unfold upd; rw [if_neg h]
theorem uP {H : Hp} {a : Addr} {o u : HO} : upd (upd H a o) a u = upd H a u := by
 funext b; unfold upd; split <;> rfl
theorem aB {H : Hp} {a b : Addr} {o : HO} (h : H a = some o) (h' : H b = none) : a ≠ b := by
 intro e; subst e; rw [h] at h'; cases h'
section
variable (P : Program) (w : World)
def ObjOk (H : Hp) (h : Heap) (a : Addr) : HO → Prop
 | .lst xs => xs.length ≤ sizeLine ∧ ∃ (its : List Value) (n : Nat), Vals xs its ∧ h.get? a = some { cls := .type "list", data := .seq its.toArray n }
 | .tup xs => xs.length ≤ sizeLine ∧ ∃ its : List Value, Vals xs its ∧ IsTup h a its.toArray
 | .dK kvs => kvs.length ≤ sizeLine ∧ (a == sysModules) = false ∧ ∃ vs, KV kvs vs ∧ h.DictOf (oH P w) a vs
 | .dT kvs => kvs.length ≤ sizeLine ∧ (a == sysModules) = false ∧ ∃ xs : List (List Key × Addr × Value),
  Paired (fun (p : List Key × V) (q : List Key × Addr × Value) => p.1 = q.1 ∧ H q.2.1 = some (.tup (p.1.map kV)) ∧ RelV p.2 q.2.2) kvs xs ∧
  ∃ o es ep, h.get? a = some o ∧ o.ExactDict ∧ o.data = .dict es ep ∧ es.toList = xs.map (entryOfKey (tupleKind (oH P w))) ∧ (xs.map (·.1)).Nodup
 | .set S n => h.SetOf (intKind P w) a S n
 | .ins C dx fs => H dx = some (.own a) ∧ fs.length ≤ 1000 ∧ dx ≠ a ∧ h.get? a = some (PySem.W.instObj C dx) ∧
  ∃ mA, h.Ns1 dx mA ∧ (∀ f, Bh (fs.lookup f) (mA f)) ∧ PySem.Within mA (fs.map (·.1))
 | .own _ => ∃ o, h.get? a = some o
 | .xd fs => ∃ mA, h.Ns1 a mA ∧ ∀ f, Bh (fs.lookup f) (mA f)
 | .rng lo hi => ∃ t u v, h.get? a = some { cls := .type "range", data := .fields #[.int lo t, .int hi u, .int 1 v] }
 | .frz o u => h.get? a = some o ∧ ObjOk H h a u
 | .tbl ps => h.get? a = some { cls := .none, data := .fields ps }
 | .met f x => h.get? a = some (PySem.W.methodObj (.ref f) (.ref x))
 | .ext φ => φ h ∧ (∃ o, h.get? a = some o) ∧ ∀ h1 h2 : Heap, φ h1 → (∀ o, h1.get? a = some o → h2.get? a = some o) → φ h2
def HOk (H : Hp) (h : Heap) : Prop := ∀ a o, H a = some o → ObjOk P w H h a o
end
section
variable {P : Program} {w : World} {H H' : Hp} {h h' : Heap} {a : Addr} {o : HO}
theorem ObjOk.lt (x : ObjOk P w H h a o) : a < h.objs.size := by
 cases o with
 | lst xs => obtain ⟨_, _, _, _, e⟩ := x; exact Heap.lt_size e
 | tup xs => obtain ⟨_, _, _, p⟩ := x; exact p.lt
 | dK kvs => obtain ⟨_, _, _, _, o, _, _, e, _⟩ := x; exact Heap.lt_size e
 | dT kvs => obtain ⟨_, _, _, _, o, _, _, e, _⟩ := x; exact Heap.lt_size e
 | set S n => obtain ⟨o, _, _, _, e, _⟩ := x; exact Heap.lt_size e
 | ins C dx fs => obtain ⟨_, _, _, e, _⟩ := x; exact Heap.lt_size e
 | own y => obtain ⟨_, e⟩ := x; exact Heap.lt_size e
 | xd fs => obtain ⟨_, ⟨_, _, _, e, _⟩, _⟩ := x; exact Heap.lt_size e
 | rng lo hi => obtain ⟨_, _, _, e⟩ := x; exact Heap.lt_size e
 | frz ob u => obtain ⟨e, _⟩ := x; exact Heap.lt_size e
 | tbl ps => exact Heap.lt_size (show h.get? a = some _ from x)
 | met f y => exact Heap.lt_size (show h.get? a = some _ from x)
 | ext φ => obtain ⟨_, ⟨_, e⟩, _⟩ := x; exact Heap.lt_size e
theorem Paired.mapP {α β : Type} {F G : α → β → Prop} : ∀ {l₁ : List α} {l₂ : List β}, Paired F l₁ l₂ → (∀ a b, F a b → G a b) → Paired G l₁ l₂
 | _, _, .nil, _ => .nil
 | _, _, .cons r t, f => .cons (f _ _ r) (Paired.mapP t f)
theorem ObjOk.stay (x : ObjOk P w H h a o) (k : ∀ b u, (b = a ∨ H b = some (.own a)) → h.get? b = some u → h'.get? b = some u)
 (ho : ∀ b, H b = some (.own a) → H' b = some (.own a)) (ht : ∀ b xs, H b = some (.tup xs) → H' b = some (.tup xs)) : ObjOk P w H' h' a o := by
 induction o with
 | lst xs => obtain ⟨z, its, n, r, e⟩ := x; exact ⟨z, its, n, r, k _ _ (.inl rfl) e⟩
 | tup xs => obtain ⟨z, its, r, ob, e, c⟩ := x; exact ⟨z, its, r, ob, k _ _ (.inl rfl) e, c⟩
 | dK kvs => obtain ⟨z, y, vs, r, ob, es, ep, e, c⟩ := x; exact ⟨z, y, vs, r, ob, es, ep, k _ _ (.inl rfl) e, c⟩
 | dT kvs =>
  obtain ⟨z, y, xs, r, ob, es, ep, e, c⟩ := x
  exact ⟨z, y, xs, Paired.mapP r fun p q z => ⟨z.1, ht _ _ z.2.1, z.2.2⟩, ob, es, ep, k _ _ (.inl rfl) e, c⟩
 | set S n => obtain ⟨ob, es, ep, t, e, c⟩ := x; exact ⟨ob, es, ep, t, k _ _ (.inl rfl) e, c⟩
 | ins C dx fs =>
  obtain ⟨d, z, ne, e, mA, ⟨od, es, ep, e2, c⟩, r⟩ := x
  exact ⟨ho _ d, z, ne, k _ _ (.inl rfl) e, mA, ⟨od, es, ep, k _ _ (.inr d) e2, c⟩, r⟩
 | own y => obtain ⟨ob, e⟩ := x; exact ⟨ob, k _ _ (.inl rfl) e⟩
 | xd fs => obtain ⟨mA, ⟨od, es, ep, e, c⟩, r⟩ := x; exact ⟨mA, ⟨od, es, ep, k _ _ (.inl rfl) e, c⟩, r⟩
 | rng lo hi => obtain ⟨t, u, v, e⟩ := x; exact ⟨t, u, v, k _ _ (.inl rfl) e⟩
 | frz ob u ih => obtain ⟨e, q⟩ := x; exact ⟨k _ _ (.inl rfl) e, ih q⟩
 | tbl ps =>
  have e : h.get? a = some { cls := .none, data := .fields ps } := x
  show h'.get? a = some { cls := .none, data := .fields ps }
  exact k a _ (.inl rfl) e
 | met f y =>
  have e : h.get? a = some (PySem.W.methodObj (.ref f) (.ref y)) := x
  show h'.get? a = some (PySem.W.methodObj (.ref f) (.ref y))
  exact k a _ (.inl rfl) e
 | ext φ => obtain ⟨p, ⟨o, e⟩, st⟩ := x; exact ⟨st _ _ p fun o q => k _ _ (.inl rfl) q, ⟨o, k _ _ (.inl rfl) e⟩, st⟩
theorem HOk.lt (x : HOk P w H h) (e : H a = some o) : a < h.objs.size := (x a o e).lt
theorem HOk.fresh (x : HOk P w H h) (e : h.objs.size ≤ a) : H a = none := by
 cases q : H a with
 | none => rfl
 | some u => exact absurd (Nat.lt_of_lt_of_le (x.lt q) e) (Nat.lt_irrefl _)
theorem HOk.kept (x : HOk P w H h) (k : ∀ b u, h.get? b = some u → h'.get? b = some u) : HOk P w H h' := fun a o e =>
 (x a o e).stay (fun b u _ q => k b u q) (fun _ q => q) fun _ _ q => q
theorem HOk.laid (x : HOk P w H h) (k : ∀ b u, h.get? b = some u → h'.get? b = some u) (hp : h.objs.size ≤ a) (new : ObjOk P w (upd H a o) h' a o) : HOk P w (upd H a o) h' := fun b u e => by
 have hn := x.fresh hp
 by_cases hb : b = a
 · subst hb; rw [av] at e; cases e; exact new
 · rw [az hb] at e
   exact (x b u e).stay (fun c v _ q => k c v q) (fun c q => by rw [az (aB q hn)]; exact q) fun c xs q => by rw [az (aB q hn)]; exact q
end
def Rd (H : Hp) (a : Addr) (u : HO) : Prop := H a = some u ∨ ∃ o, H a = some (.frz o u)
theorem Rd.of {H : Hp} {a : Addr} {u : HO} (h : H a = some u) : Rd H a u := .inl h
theorem Rd.ok {P : Program} {w : World} {H : Hp} {h : Heap} {a : Addr} {u : HO} (r : Rd H a u) (x : HOk P w H h) : ObjOk P w H h a u := by
 rcases r with r | ⟨o, r⟩
 · exact x a u r
 · obtain ⟨_, q⟩ := x a _ r
   exact q
def Mut : Option HO → Prop
 | some (.lst _) => True
 | some (.dK _) => True
 | some (.dT _) => True
 | some (.set _ _) => True
 | some (.ins _ _ _) => True
 | some (.ext _) => True
 | _ => False
section
variable {P : Program} {w : World} {H : Hp} {h h' : Heap} {x e : Addr} {o' : HO}
theorem HOk.write (ok : HOk P w H h) (mu : Mut (H x)) (he : e = x ∨ H e = some (.own x)) (k : ∀ b u, b ≠ e → h.get? b = some u → h'.get? b = some u) (heo : ∃ u, h'.get? e = some u)
 (new : ObjOk P w (upd H x o') h' x o') : HOk P w (upd H x o') h' := fun b u q => by
 have nown : ∀ c y, H c = some (.own y) → c ≠ x := fun c y r z => by subst z; rw [r] at mu; exact mu
 have ntup : ∀ c xs, H c = some (.tup xs) → c ≠ x := fun c xs r z => by subst z; rw [r] at mu; exact mu
 by_cases hb : b = x
 · subst hb; rw [av] at q; cases q; exact new
 · rw [az hb] at q
   by_cases hbe : b = e
   · have q' : H b = some (.own x) := by
      rcases he with z | z
      · exact absurd (hbe.trans z) hb
      · rw [hbe]; exact z
     rw [q] at q'; cases q'
     obtain ⟨v, hv⟩ := heo
     exact ⟨v, by rw [hbe]; exact hv⟩
   · refine (ok b u q).stay (fun c v hc r => k c v ?_ r) (fun c r => by rw [az (nown c b r)]; exact r) fun c xs r => by rw [az (ntup c xs r)]; exact r
     rcases hc with rfl | hc
     · exact hbe
     · rintro rfl
       rcases he with z | z
       · exact nown c b hc z
       · rw [hc] at z; cases z; exact hb rfl
end
structure Un (fs ex : List Addr) (H H' : Hp) (h h' : Heap) : Prop where
 keep : ∀ b o, h.get? b = some o → H b = none → b ∉ fs → b ∉ ex → h'.get? b = some o
 slot : ∀ b o, h.get? b = some o → H b = none → b ∈ fs → b ∉ ex → ∃ sl, h'.get? b = some { o with slots := sl }
 free : ∀ b o, h.get? b = some o → H b = none → b ∉ ex → H' b = none
 there : ∀ b o, h.get? b = some o → b ∉ ex → ∃ o', h'.get? b = some o'
 tups : ∀ b xs, H b = some (.tup xs) → H' b = some (.tup xs)
 frzs : ∀ b o u, H b = some (.frz o u) → H' b = some (.frz o u)
 tbls : ∀ b ps, H b = some (.tbl ps) → ∃ more, H' b = some (.tbl (ps ++ more))
section
variable {fs fs' ex ex' : List Addr} {H H1 H2 : Hp} {h h1 h2 h' : Heap} {a x e : Addr} {o : HO}
theorem Un.any (u : Un fs ex H H1 h h1) {b : Addr} {ob : Obj} (q : h.get? b = some ob) (n : H b = none) (hx : b ∉ ex) : ∃ sl, h1.get? b = some { ob with slots := sl } := by
 by_cases hb : b ∈ fs
 · exact u.slot b ob q n hb hx
 · exact ⟨ob.slots, u.keep b ob q n hb hx⟩
theorem Un.trans (a : Un fs ex H H1 h h1) (b : Un fs ex H1 H2 h1 h2) : Un fs ex H H2 h h2 where
 keep := fun c ob q n hc hx => b.keep c ob (a.keep c ob q n hc hx) (a.free c ob q n hx) hc hx
 slot := fun c ob q n hc hx => by
  obtain ⟨sl, e1⟩ := a.slot c ob q n hc hx
  obtain ⟨sl', e2⟩ := b.slot c _ e1 (a.free c ob q n hx) hc hx
  exact ⟨sl', e2⟩
 free := fun c ob q n hx => by
  obtain ⟨o', e1⟩ := a.there c ob q hx
  exact b.free c o' e1 (a.free c ob q n hx) hx
 there := fun c ob q hx => by
  obtain ⟨o', e1⟩ := a.there c ob q hx
  exact b.there c o' e1 hx
 tups := fun c xs q => b.tups c xs (a.tups c xs q)
 frzs := fun c ob xs q => b.frzs c ob xs (a.frzs c ob xs q)
 tbls := fun c ps q => by
  obtain ⟨m1, e1⟩ := a.tbls c ps q
  obtain ⟨m2, e2⟩ := b.tbls c _ e1
  exact ⟨m1 ++ m2, by rw [e2, Array.append_assoc]⟩
theorem Un.kept (k : ∀ b u, h.get? b = some u → h'.get? b = some u) : Un fs ex H H h h' :=
 ⟨fun b ob q _ _ _ => k b ob q, fun b ob q _ _ _ => ⟨ob.slots, k b ob q⟩, fun _ _ _ n _ => n, fun b ob q _ => ⟨ob, k b ob q⟩, fun _ _ q => q, fun _ _ _ q => q, fun _ ps q => ⟨#[], by rw [q]; simp⟩⟩
theorem Un.refl : Un fs ex H H h h := Un.kept fun _ _ q => q
theorem Un.laid (k : ∀ b u, h.get? b = some u → h'.get? b = some u) (hp : h.objs.size ≤ a) (hn : H a = none) : Un fs ex H (upd H a o) h h' where
 keep := fun b u q _ _ _ => k b u q
 slot := fun b u q _ _ _ => ⟨u.slots, k b u q⟩
 free := fun b u q n _ => by rw [az (Nat.ne_of_lt (Nat.lt_of_lt_of_le (Heap.lt_size q) hp))]; exact n
 there := fun b u q _ => ⟨u, k b u q⟩
 tups := fun b xs q => by rw [az (aB q hn)]; exact q
 frzs := fun b u xs q => by rw [az (aB q hn)]; exact q
 tbls := fun b ps q => ⟨#[], by rw [az (aB q hn), q]; simp⟩
theorem Un.write (mu : Mut (H x)) (he : e = x ∨ H e = some (.own x)) (k : ∀ b u, b ≠ e → h.get? b = some u → h'.get? b = some u) (heo : ∃ u, h'.get? e = some u) : Un fs ex H (upd H x o) h h' := by
 have hx : ∀ b, H b = none → b ≠ x := fun b n z => by subst z; rw [n] at mu; exact mu
 have hb : ∀ b, H b = none → b ≠ e := fun b n z => by
  subst z
  rcases he with r | r
  · exact hx b n r
  · rw [n] at r; cases r
 have hm : ∀ b u, H b = some u → ¬ Mut (some u) → b ≠ x := fun b u q nm z => by subst z; rw [q] at mu; exact nm mu
 refine ⟨fun b u q n _ _ => k b u (hb b n) q, fun b u q n _ _ => ⟨u.slots, k b u (hb b n) q⟩, fun b u q n _ => by rw [az (hx b n)]; exact n, fun b u q _ => ?_,
  fun b xs q => by rw [az (hm b _ q fun z => z)]; exact q, fun b u xs q => by rw [az (hm b _ q fun z => z)]; exact q, fun b ps q => ⟨#[], by rw [az (hm b _ q fun z => z), q]; simp⟩⟩
 by_cases hbe : b = e
 · subst hbe; exact heo
 · exact ⟨u, k b u hbe q⟩
theorem Un.mono (u : Un fs ex H H1 h h1) (hs : ∀ b ∈ fs, b ∈ fs') (hx : ∀ b ∈ ex, b ∈ ex') : Un fs' ex' H H1 h h1 :=
 ⟨fun b ob q n hb he => u.keep b ob q n (fun z => hb (hs b z)) fun z => he (hx b z), fun _ _ q n _ he => u.any q n fun z => he (hx _ z), fun b ob q n he => u.free b ob q n fun z => he (hx b z), fun b ob q he => u.there b ob q fun z => he (hx b z), u.tups, u.frzs, u.tbls⟩
end
def trk (h : Heap) (H : Hp) : List Addr := (List.range h.objs.size).filter fun a => (H a).isSome
def rO (h : Heap) (H : Hp) : Heap := PySem.W.hideAll h (trk h H)
theorem oI (h : Heap) (H : Hp) : (rO h H).objs.size = h.objs.size := PySem.W.hideAll_size _ _
theorem rP {h : Heap} {H : Hp} {b : Addr} {o : Obj} (e : h.get? b = some o) (n : H b = none) : (rO h H).get? b = some o :=
 PySem.W.hideAll_get _ e fun hm => by
  have q : (H b).isSome = true := (List.mem_filter.mp hm).2
  rw [n] at q; simp at q
theorem uQ {h : Heap} {H : Hp} {b : Addr} {o : Obj} (e : (rO h H).get? b = some o) : h.get? b = some o ∧ H b = none := by
 have e' : h.get? b = some o := PySem.W.of_hideAll (trk h H) e
 refine ⟨e', ?_⟩
 cases q : H b with
 | none => rfl
 | some x =>
  have hm : b ∈ trk h H := List.mem_filter.mpr ⟨List.mem_range.mpr (Heap.lt_size e'), by simp [q]⟩
  have z : (rO h H).get? b = none := PySem.W.hideAll_none (trk h H) hm
  rw [z] at e; cases e
def uR (g h : Heap) (L : Addr) : List (Addr × Obj) := (List.range h.objs.size).filterMap fun a => if a = L ∨ (g.get? a).isSome = true then none else (h.get? a).map fun o => (a, o)
def rest (g h : Heap) (L d : Addr) : List (Addr × Obj) := (uR g h L).filter fun p => decide (p.1 ≠ d)
structure Mod (K : PySem.W.Frag) (mg : Str → Option Value) (base : Heap) : Prop where
 kin : K.In base
 glob : base.Ns mainGlobals mg
 blt : ∃ mb, base.Ns builtinsNs mb ∧ ∀ x : Str, x ≠ "__name__" → mb x = bootBuiltins x
 nolimit : base.NoLimit
structure Cx where
 prog : Program
 w : World
 K : PySem.W.Frag
 mg : Str → Option Value
 base : Heap
 A : Around
 N : List Str
 s₀ : Shared
 H₀ : Hp
 env : Env
 outer : List Env
 stack : List Env
 ex : List Addr
 fn : Str → Bool
 calm : Bool
 pn : List (Addr × Obj)
 xe : Value → Shared → Prop
def frs (l : List Env) : List Addr := l.filterMap (·.frame)
abbrev Cx.fs (X : Cx) : List Addr := frs X.outer
def Vis (sc : Scope) (x : Str) : Prop := sc.names.lookup x = some .local ∨ sc.names.lookup x = some .cell ∨ sc.names.lookup x = some .free
def Loc (sc : Scope) (x : Str) : Prop := sc.names.lookup x = some .local ∨ sc.names.lookup x = some .cell
def DU (env : Env) (h : Heap) (m : Str → Option Value) (x : Str) (u : Value) : Prop :=
 (env.kindOf x = some .local ∧ m x = some u) ∨ ((env.kindOf x = some .cell ∨ env.kindOf x = some .free) ∧ ∃ c, env.cells.lookup x = some c ∧ h.IsCell c (some u))
structure Cx.Ok (X : Cx) : Prop where
 mod : Mod X.K X.mg X.base
 kind : X.env.scope.kind = .function
 glob : X.env.globals = mainGlobals
 blt : X.env.builtins = builtinsNs
 above : X.s₀.heap.objs.size ≤ X.env.locals
 inj : ∀ x y c, X.env.cells.lookup x = some c → X.env.cells.lookup y = some c → x = y
 has : ∀ x, (X.env.kindOf x = some .cell ∨ X.env.kindOf x = some .free) → ∃ c, X.env.cells.lookup x = some c
 cab : ∀ x c, X.fn x = true → X.env.cells.lookup x = some c → X.s₀.heap.objs.size ≤ c
 hd : X.calm = true → X.A.handled = none
 frames : X.A.frames = some X.stack
 stk : X.stack = X.outer ∨ (X.stack = X.env :: X.outer ∧ X.env.frame = some X.env.locals)
 exf : ∀ b ∈ X.ex, b ≠ X.env.locals ∧ ∀ x c, X.env.cells.lookup x = some c → c ≠ b
 bs : ∀ b o, X.base.get? b = some o → X.s₀.heap.get? b = some o ∧ X.H₀ b = none
 bsz : X.base.objs.size ≤ X.s₀.heap.objs.size
 noex : ∀ b o, X.base.get? b = some o → b ∉ X.ex
 exfs : ∀ b ∈ X.ex, b ∉ X.fs
 funs : X.s₀.heap.FunFrames X.base X.outer
 frf : ∀ b ∈ X.fs, X.H₀ b = none
structure Inv (X : Cx) (pins : List (Addr × Obj)) (σ : List (Option V)) (H : Hp) (s : Shared) : Prop where
 ok : X.Ok
 os : s.os = X.s₀.os
 bare : AllBare s.gens
 base : Un X.fs X.ex X.H₀ H X.s₀.heap s.heap
 loc : ∃ m, s.heap.Ns X.env.locals m ∧ ∀ (i : Nat) (x : Str) (v : V), X.N[i]? = some x → σ[i]? = some (some v) → Vis X.env.scope x → ∃ u, RelV v u ∧ DU X.env s.heap m x u
 cell : ∀ x c, X.env.cells.lookup x = some c → ∃ v, s.heap.IsCell c v
 free : H X.env.locals = none
 freeC : ∀ x c, X.env.cells.lookup x = some c → H c = none
 pin : ∀ p ∈ X.pn ++ pins, s.heap.get? p.1 = some p.2 ∧ H p.1 = none ∧ p.1 ≠ X.env.locals ∧ p.1 ∉ X.fs ∧ ∀ v, p.2.data ≠ .cell v
 hok : HOk X.prog X.w H s.heap
 len : σ.length = X.N.length
section
variable {X : Cx} {pins : List (Addr × Obj)} {σ : List (Option V)} {H H' : Hp} {s : Shared} {h' : Heap}
theorem Cx.Ok.nofr (ok : X.Ok) {b : Addr} {o : Obj} (e : X.base.get? b = some o) : b ∉ X.fs := fun hb => by
 have := (ok.funs.mem hb).1
 rw [e] at this; cases this
theorem Inv.bs (I : Inv X pins σ H s) : ∀ b o, X.base.get? b = some o → s.heap.get? b = some o ∧ H b = none := fun b o e =>
 ⟨I.base.keep b o (I.ok.bs b o e).1 (I.ok.bs b o e).2 (I.ok.nofr e) (I.ok.noex b o e), I.base.free b o (I.ok.bs b o e).1 (I.ok.bs b o e).2 (I.ok.noex b o e)⟩
theorem Inv.bk (I : Inv X pins σ H s) : ∀ b o, X.base.get? b = some o → s.heap.get? b = some o := fun b o e => (I.bs b o e).1
theorem Inv.mod (I : Inv X pins σ H s) : Mod X.K X.mg X.base := I.ok.mod
theorem Inv.kIn (I : Inv X pins σ H s) : X.K.In s.heap := I.ok.mod.kin.keeps I.bk
theorem Inv.nolimit (I : Inv X pins σ H s) : s.heap.NoLimit := I.ok.mod.nolimit.keeps I.bk
theorem Inv.lt (I : Inv X pins σ H s) : X.env.locals < s.heap.objs.size := let ⟨_, hn, _⟩ := I.loc; hn.lt
theorem Inv.sz (I : Inv X pins σ H s) : X.s₀.heap.objs.size ≤ s.heap.objs.size := Nat.le_trans I.ok.above (Nat.le_of_lt I.lt)
theorem Inv.nofs (I : Inv X pins σ H s) {a : Addr} (h : s.heap.objs.size ≤ a) : a ∉ X.fs := fun hb => by
 obtain ⟨_, o, ho, _⟩ := I.ok.funs.mem hb
 exact absurd (Nat.lt_of_lt_of_le (Heap.lt_size ho) (Nat.le_trans I.sz h)) (Nat.lt_irrefl _)
theorem Inv.cne (I : Inv X pins σ H s) : ∀ x c, X.env.cells.lookup x = some c → c ≠ X.env.locals := fun x c e z => by
 obtain ⟨v, o, ho, hd⟩ := I.cell x c e
 obtain ⟨m, ⟨o', es, ep, ho', hd', _⟩, _⟩ := I.loc
 rw [z, ho'] at ho; cases ho; rw [hd'] at hd; cases hd
theorem Inv.funs (I : Inv X pins σ H s) : s.heap.FunFrames X.base X.outer := by
 have all : ∀ (l : List Env), (∀ b ∈ frs l, b ∈ X.fs) → X.s₀.heap.FunFrames X.base l → s.heap.FunFrames X.base l := by
  intro l
  induction l with
  | nil => intro _ _; trivial
  | cons env r ih =>
   intro hs hl
   obtain ⟨hk, ⟨L, o, hf, hn, ho, hd⟩, hr⟩ := hl
   have hL : L ∈ X.fs := hs L (by unfold frs; rw [List.filterMap_cons, hf]; exact List.mem_cons_self)
   obtain ⟨sl, e⟩ := I.base.slot L o ho (I.ok.frf L hL) hL fun z => I.ok.exfs L z hL
   exact ⟨hk, ⟨L, _, hf, hn, e, hd⟩, ih (fun b hb => hs b (by unfold frs; rw [List.filterMap_cons, hf]; exact List.mem_cons_of_mem _ hb)) hr⟩
 exact all X.outer (fun _ hb => hb) I.ok.funs
theorem Inv.stack (I : Inv X pins σ H s) : s.heap.FunFrames X.base X.stack := by
 rcases I.ok.stk with e | ⟨e, hf⟩
 · rw [e]; exact I.funs
 · rw [e]
   obtain ⟨m, hn, _⟩ := I.loc
   refine .cons (by rw [I.ok.kind]; decide) hf hn ?_ I.funs
   exact Heap.get?_none_of_le (Nat.le_trans I.ok.bsz I.ok.above)
theorem Inv.stkSub (I : Inv X pins σ H s) : ∀ b ∈ frs X.stack, b ∈ X.env.locals :: X.fs := fun b hb => by
 rcases I.ok.stk with e | ⟨e, hf⟩
 · rw [e] at hb; exact List.mem_cons_of_mem _ hb
 · rw [e] at hb
   unfold frs at hb
   rw [List.filterMap_cons, hf] at hb
   exact hb
theorem Inv.stkFree (I : Inv X pins σ H s) : ∀ b ∈ frs X.stack, H b = none := fun b hb => by
 rcases List.mem_cons.mp (I.stkSub b hb) with e | hb
 · rw [e]; exact I.free
 · obtain ⟨_, o, ho, _⟩ := I.ok.funs.mem hb
   exact I.base.free b o ho (I.ok.frf b hb) fun z => I.ok.exfs b z hb
theorem Inv.step {g' : Array GenState} {t' : Nat} {d' : Drawn} {ch : List Addr} (I : Inv X pins σ H s)
 (hch : ∀ b ∈ ch, (b ∈ X.ex ∨ X.s₀.heap.objs.size ≤ b) ∧ b ≠ X.env.locals ∧ (∀ x c, X.env.cells.lookup x = some c → c ≠ b) ∧ ∀ p ∈ X.pn ++ pins, p.1 ≠ b)
 (keep : ∀ b o, b ≠ X.env.locals → b ∉ X.fs → b ∉ ch → s.heap.get? b = some o → H b = none → h'.get? b = some o)
 (slot : ∀ b o, b ≠ X.env.locals → b ∈ X.fs → b ∉ ch → s.heap.get? b = some o → H b = none → ∃ sl, h'.get? b = some { o with slots := sl }) (free : ∀ b o, b ∉ ch → s.heap.get? b = some o → H b = none → H' b = none)
 (there : ∀ b o, b ∉ ch → s.heap.get? b = some o → ∃ o', h'.get? b = some o')
 (tups : ∀ b xs, H b = some (.tup xs) → H' b = some (.tup xs)) (frzs : ∀ b o u, H b = some (.frz o u) → H' b = some (.frz o u)) (tbls : ∀ b ps, H b = some (.tbl ps) → ∃ more, H' b = some (.tbl (ps ++ more)))
 (ns : ∀ m, s.heap.Ns X.env.locals m → h'.Ns X.env.locals m) (hok : HOk X.prog X.w H' h') (hg : AllBare g') :
 Inv X pins σ H' { s with heap := h', gens := g', drawn := d', toks := t' } := by
 have neL : ∀ b o, X.s₀.heap.get? b = some o → b ≠ X.env.locals := fun b o e => Nat.ne_of_lt (Nat.lt_of_lt_of_le (Heap.lt_size e) I.ok.above)
 have neC : ∀ b o, X.s₀.heap.get? b = some o → b ∉ X.ex → b ∉ ch := fun b o e hx hb => by
  rcases (hch b hb).1 with z | z
  · exact hx z
  · exact absurd (Nat.lt_of_lt_of_le (Heap.lt_size e) z) (Nat.lt_irrefl _)
 have cellK : ∀ x c, X.env.cells.lookup x = some c → ∀ v, s.heap.IsCell c v → h'.IsCell c v := fun x c e v ⟨o, ho, hd⟩ => by
  have nch : c ∉ ch := fun z => (hch c z).2.2.1 x c e rfl
  by_cases hc : c ∈ X.fs
  · obtain ⟨sl, q⟩ := slot c o (I.cne x c e) hc nch ho (I.freeC x c e)
    exact ⟨_, q, hd⟩
  · exact ⟨o, keep c o (I.cne x c e) hc nch ho (I.freeC x c e), hd⟩
 refine ⟨I.ok, I.os, hg, ⟨fun b o e n hb hx => ?_, fun b o e n hb hx => ?_, fun b o e n hx => ?_, fun b o e hx => ?_, fun b xs e => tups b xs (I.base.tups b xs e), fun b o xs e => frzs b o xs (I.base.frzs b o xs e), fun b ps e => ?_⟩, ?_, fun x c e => ?_, ?_, fun x c e => ?_, fun p hp => ?_, hok, I.len⟩
 · exact keep b o (neL b o e) hb (neC b o e hx) (I.base.keep b o e n hb hx) (I.base.free b o e n hx)
 · obtain ⟨sl, e1⟩ := I.base.slot b o e n hb hx
   obtain ⟨sl', e2⟩ := slot b _ (neL b o e) hb (neC b o e hx) e1 (I.base.free b o e n hx)
   exact ⟨sl', e2⟩
 · obtain ⟨o', e1⟩ := I.base.there b o e hx
   exact free b o' (neC b o e hx) e1 (I.base.free b o e n hx)
 · obtain ⟨o', e1⟩ := I.base.there b o e hx
   exact there b o' (neC b o e hx) e1
 · obtain ⟨m1, e1⟩ := I.base.tbls b ps e
   obtain ⟨m2, e2⟩ := tbls b _ e1
   exact ⟨m1 ++ m2, by rw [e2, Array.append_assoc]⟩
 · obtain ⟨m, hn, hl⟩ := I.loc
   refine ⟨m, ns m hn, fun i x v e1 e2 e3 => ?_⟩
   obtain ⟨u, r, l⟩ := hl i x v e1 e2 e3
   refine ⟨u, r, ?_⟩
   rcases l with l | ⟨k, c, e, z⟩
   · exact .inl l
   · exact .inr ⟨k, c, e, cellK x c e _ z⟩
 · obtain ⟨v, z⟩ := I.cell x c e
   exact ⟨v, cellK x c e v z⟩
 · obtain ⟨m, ⟨o, _, _, ho, _⟩, _⟩ := I.loc
   exact free _ o (fun z => (hch _ z).2.1 rfl) ho I.free
 · obtain ⟨v, o, ho, hd⟩ := I.cell x c e
   exact free c o (fun z => (hch c z).2.2.1 x c e rfl) ho (I.freeC x c e)
 · obtain ⟨e, n, ne, nf, d⟩ := I.pin p hp
   have nch : p.1 ∉ ch := fun z => (hch p.1 z).2.2.2 p hp rfl
   exact ⟨keep p.1 p.2 ne nf nch e n, free p.1 p.2 nch e n, ne, nf, d⟩
theorem Inv.un {t' : Nat} (I : Inv X pins σ H s) (u : Un X.fs [] H H' s.heap h') (hok : HOk X.prog X.w H' h') : Inv X pins σ H' { s with heap := h', toks := t' } := by
 obtain ⟨m, ⟨o, es, ep, ho, r⟩, _⟩ := id I.loc
 obtain ⟨sl, hL⟩ := u.any ho I.free (by simp)
 exact I.step (g' := s.gens) (d' := s.drawn) (ch := []) (fun _ z => nomatch z) (fun b o _ hb _ e n => u.keep b o e n hb (by simp)) (fun b o _ hb _ e n => u.slot b o e n hb (by simp)) (fun b o _ e n => u.free b o e n (by simp)) (fun b o _ e => u.there b o e (by simp)) u.tups u.frzs u.tbls (fun m' hm => by
  obtain ⟨o', es', ep', ho', r'⟩ := hm
  rw [ho] at ho'; cases ho'
  exact ⟨_, es', ep', hL, r'⟩) hok I.bare
theorem Inv.call {g' : Array GenState} {t' : Nat} {d' : Drawn} {ch : List Addr} (I : Inv X pins σ H s) (u : Un (frs X.stack) ch H H' s.heap h') (hok : HOk X.prog X.w H' h') (hg : AllBare g')
 (hch : ∀ b ∈ ch, (b ∈ X.ex ∨ X.s₀.heap.objs.size ≤ b) ∧ b ≠ X.env.locals ∧ (∀ x c, X.env.cells.lookup x = some c → c ≠ b) ∧ ∀ p ∈ X.pn ++ pins, p.1 ≠ b) :
 Inv X pins σ H' { s with heap := h', gens := g', drawn := d', toks := t' } := by
 obtain ⟨m, ⟨o, es, ep, ho, r⟩, _⟩ := id I.loc
 obtain ⟨sl, hL⟩ := u.any ho I.free fun z => (hch _ z).2.1 rfl
 exact I.step (ch := ch) hch (fun b o hL hb hc e n => u.keep b o e n (fun z => (List.mem_cons.mp (I.stkSub b z)).elim hL hb) hc) (fun b o _ _ hc e n => u.any e n hc) (fun b o hc e n => u.free b o e n hc) (fun b o hc e => u.there b o e hc) u.tups u.frzs u.tbls (fun m' hm => by
  obtain ⟨o', es', ep', ho', r'⟩ := hm
  rw [ho] at ho'; cases ho'
  exact ⟨_, es', ep', hL, r'⟩) hok hg
theorem Inv.turned {t' : Nat} {it : Addr} (I : Inv X pins σ H s) (k : ∀ b o, b ≠ it → s.heap.get? b = some o → h'.get? b = some o) (hn : H it = none) (hL : it ≠ X.env.locals)
 (h1 : it ∈ X.ex ∨ X.s₀.heap.objs.size ≤ it) (h2 : ∀ x c, X.env.cells.lookup x = some c → c ≠ it) (h3 : ∀ p ∈ X.pn ++ pins, p.1 ≠ it) : Inv X pins σ H { s with heap := h', toks := t' } := by
 have nit : ∀ b u, H b = some u → b ≠ it := fun b u e z => by rw [z, hn] at e; cases e
 refine I.step (g' := s.gens) (d' := s.drawn) (ch := [it]) (fun b hb => ?_) (fun b o _ _ hc e _ => k b o (fun z => hc (by simp [z])) e) (fun b o _ _ hc e _ => ⟨o.slots, k b o (fun z => hc (by simp [z])) e⟩) (fun _ _ _ _ n => n)
  (fun b o hc e => ⟨o, k b o (fun z => hc (by simp [z])) e⟩) (fun _ _ e => e) (fun _ _ _ e => e) (fun b ps e => ⟨#[], by rw [e]; simp⟩) (fun m hm => ?_) (fun b u e => ?_) I.bare
 · have e : b = it := by simpa using hb
   subst e
   exact ⟨h1, hL, h2, h3⟩
 · obtain ⟨o, es, ep, ho, r⟩ := hm
   exact ⟨o, es, ep, k _ o (Ne.symm hL) ho, r⟩
 · refine (I.hok b u e).stay (fun c v hc q => k c v ?_ q) (fun _ q => q) fun _ _ q => q
   rcases hc with z | z
   · rw [z]; exact nit b u e
   · exact nit c _ z
theorem Inv.tok (I : Inv X pins σ H s) (t : Nat) : Inv X pins σ H { s with toks := t } := I.un (h' := s.heap) (t' := t) Un.refl I.hok
theorem Inv.kept {t' : Nat} (I : Inv X pins σ H s) (k : ∀ b u, s.heap.get? b = some u → h'.get? b = some u) : Inv X pins σ H { s with heap := h', toks := t' } := I.un (Un.kept k) (I.hok.kept k)
theorem Inv.laid {a : Addr} {o : HO} {t' : Nat} (I : Inv X pins σ H s) (k : ∀ b u, s.heap.get? b = some u → h'.get? b = some u) (hp : s.heap.objs.size ≤ a) (new : ObjOk X.prog X.w (upd H a o) h' a o) :
 Inv X pins σ (upd H a o) { s with heap := h', toks := t' } := I.un (Un.laid k hp (I.hok.fresh hp)) (I.hok.laid k hp new)
theorem Inv.write {x e : Addr} {o : HO} {t' : Nat} (I : Inv X pins σ H s) (mu : Mut (H x)) (he : e = x ∨ H e = some (.own x)) (k : ∀ b u, b ≠ e → s.heap.get? b = some u → h'.get? b = some u) (heo : ∃ u, h'.get? e = some u)
 (new : ObjOk X.prog X.w (upd H x o) h' x o) : Inv X pins σ (upd H x o) { s with heap := h', toks := t' } := I.un (Un.write mu he k heo) (I.hok.write mu he k heo new)
theorem Inv.pins_of {pins' : List (Addr × Obj)} (I : Inv X pins σ H s) (h : ∀ p ∈ pins', s.heap.get? p.1 = some p.2 ∧ H p.1 = none ∧ p.1 ≠ X.env.locals ∧ p.1 ∉ X.fs ∧ ∀ v, p.2.data ≠ .cell v) : Inv X pins' σ H s :=
 ⟨I.ok, I.os, I.bare, I.base, I.loc, I.cell, I.free, I.freeC, fun p hp => (List.mem_append.mp hp).elim (fun z => I.pin p (List.mem_append_left _ z)) (h p), I.hok, I.len⟩
theorem jm {N : List Str} (hN : N.Nodup) {i j : Nat} {x : Str} (a : N[i]? = some x) (b : N[j]? = some x) : i = j := by
 obtain ⟨h1, e1⟩ := List.getElem?_eq_some_iff.mp a
 obtain ⟨h2, e2⟩ := List.getElem?_eq_some_iff.mp b
 exact (List.getElem_inj hN).mp (e1.trans e2.symm)
theorem oJ {M : Model} {A : Around} {E : Value → Shared → Prop} {i : Nat} {x : Str} {v : V} {u : Value} {Q : Unit → Shared → Prop} (I : Inv X pins σ H s) (hN : X.N.Nodup) (hi : X.N[i]? = some x) (hx : Loc X.env.scope x) (r : RelV v u)
 (h : ∀ s', Inv X pins (σ.set i (some v)) H s' → (∃ a, Heap.SameBut a s.heap s'.heap ∧ (a = X.env.locals ∨ X.env.cells.lookup x = some a)) → Q () s') (hf : X.fn x = true ∨ X.env.scope.names.lookup x = some .local := by first | exact .inl rfl | exact .inr rfl | assumption) : wpAny M A (storeName X.env x u) Q E s := by
 obtain ⟨m, hn, hl⟩ := id I.loc
 have hcls : (X.env.scope.kind == .class || (X.env.scope.kind == .module && X.env.locals != X.env.globals)) = false := by rw [I.ok.kind]; rfl
 have hiσ : i < σ.length := by rw [I.len]; exact (List.getElem?_eq_some_iff.mp hi).1
 have cne := I.cne
 have tracked : ∀ {a : Addr} {h' : Heap}, (∃ o, s.heap.get? a = some o ∧ H a = none) → Heap.SameBut a s.heap h' → HOk X.prog X.w H h' := fun {a h'} ha hs b ob e => by
  obtain ⟨_, _, hfree⟩ := ha
  refine (I.hok b ob e).stay (fun c w' hc q => (hs.2 c ?_).trans q) (fun _ q => q) fun _ _ q => q
  rintro rfl
  rcases hc with rfl | hc
  · rw [hfree] at e; cases e
  · rw [hfree] at hc; cases hc
 rcases hx with hk | hk
 · refine wpAny_storeName_local hk hn (fun h' hn' hs => ?_) hcls
   obtain ⟨oL, _, _, hoL, _⟩ := id hn
   refine h _ ⟨I.ok, I.os, I.bare, ⟨fun b o e n hb hx => ?_, fun b o e n hb hx => ?_, I.base.free, fun b o e hx => ?_, I.base.tups, I.base.frzs, I.base.tbls⟩, ⟨_, hn', fun j y v' e1 e2 e3 => ?_⟩, fun y c e => ?_, I.free, I.freeC, fun p hp => ?_, tracked ⟨oL, hoL, I.free⟩ hs, by simpa using I.len⟩ ⟨_, hs, .inl rfl⟩
   · exact (hs.2 b (Nat.ne_of_lt (Nat.lt_of_lt_of_le (Heap.lt_size e) I.ok.above))).trans (I.base.keep b o e n hb hx)
   · obtain ⟨sl, e1⟩ := I.base.slot b o e n hb hx
     exact ⟨sl, (hs.2 b (Nat.ne_of_lt (Nat.lt_of_lt_of_le (Heap.lt_size e) I.ok.above))).trans e1⟩
   · obtain ⟨o', e1⟩ := I.base.there b o e hx
     exact ⟨o', (hs.2 b (Nat.ne_of_lt (Nat.lt_of_lt_of_le (Heap.lt_size e) I.ok.above))).trans e1⟩
   · by_cases hj : j = i
     · subst hj
       rw [hi] at e1; cases e1
       rw [List.getElem?_set_self hiσ] at e2
       cases e2
       exact ⟨u, r, .inl ⟨hk, by simp⟩⟩
     · rw [List.getElem?_set_ne (Ne.symm hj)] at e2
       obtain ⟨u', r', q⟩ := hl j y v' e1 e2 e3
       refine ⟨u', r', ?_⟩
       rcases q with ⟨k, e⟩ | ⟨k, c, e, z⟩
       · refine .inl ⟨k, ?_⟩
         have : y ≠ x := fun e => hj (jm hN e1 (e ▸ hi))
         simp [this, e]
       · exact .inr ⟨k, c, e, z.sameBut hs (cne y c e)⟩
   · obtain ⟨w', z⟩ := I.cell y c e
     exact ⟨w', z.sameBut hs (cne y c e)⟩
   · obtain ⟨e, n, ne, nf, d⟩ := I.pin p hp
     exact ⟨(hs.2 p.1 ne).trans e, n, ne, nf, d⟩
 · have hfn : X.fn x = true := by
    rcases hf with z | z
    · exact z
    · rw [z] at hk; cases hk
   obtain ⟨c, hc⟩ := I.ok.has x (.inl hk)
   obtain ⟨w', z⟩ := I.cell x c hc
   refine wpAny_storeName_cell I.ok.kind hk hc z (fun h' hc' hs => ?_)
   obtain ⟨oc, hoc, hocd⟩ := id z
   refine h { s with heap := h' } ⟨I.ok, I.os, I.bare, ⟨fun b o e n hb hx => ?_, fun b o e n hb hx => ?_, I.base.free, fun b o e hx => ?_, I.base.tups, I.base.frzs, I.base.tbls⟩, ⟨m, hn.sameBut hs (Ne.symm (cne x c hc)), fun j y v' e1 e2 e3 => ?_⟩, fun y c' e => ?_, I.free, I.freeC, fun p hp => ?_, tracked ⟨oc, hoc, I.freeC x c hc⟩ hs, by simpa using I.len⟩ ⟨c, hs, .inr hc⟩
   · exact (hs.2 b (Nat.ne_of_lt (Nat.lt_of_lt_of_le (Heap.lt_size e) (I.ok.cab x c hfn hc)))).trans (I.base.keep b o e n hb hx)
   · obtain ⟨sl, e1⟩ := I.base.slot b o e n hb hx
     exact ⟨sl, (hs.2 b (Nat.ne_of_lt (Nat.lt_of_lt_of_le (Heap.lt_size e) (I.ok.cab x c hfn hc)))).trans e1⟩
   · obtain ⟨o', e1⟩ := I.base.there b o e hx
     exact ⟨o', (hs.2 b (Nat.ne_of_lt (Nat.lt_of_lt_of_le (Heap.lt_size e) (I.ok.cab x c hfn hc)))).trans e1⟩
   · by_cases hj : j = i
     · subst hj
       rw [hi] at e1; cases e1
       rw [List.getElem?_set_self hiσ] at e2
       cases e2
       exact ⟨u, r, .inr ⟨.inl hk, c, hc, hc'⟩⟩
     · rw [List.getElem?_set_ne (Ne.symm hj)] at e2
       obtain ⟨u', r', q⟩ := hl j y v' e1 e2 e3
       refine ⟨u', r', ?_⟩
       rcases q with q | ⟨k, c', e, z'⟩
       · exact .inl q
       · refine .inr ⟨k, c', e, z'.sameBut hs ?_⟩
         rintro rfl
         exact hj (jm hN e1 (I.ok.inj _ _ _ e hc ▸ hi))
   · by_cases hcc : c' = c
     · subst hcc; exact ⟨_, hc'⟩
     · obtain ⟨w2, z2⟩ := I.cell y c' e
       exact ⟨w2, z2.sameBut hs hcc⟩
   · obtain ⟨e, n, ne, nf, d⟩ := I.pin p hp
     refine ⟨(hs.2 p.1 ?_).trans e, n, ne, nf, d⟩
     intro q
     rw [q, hoc] at e
     have q' : oc = p.2 := Option.some.inj e
     exact d w' (by rw [← q']; exact hocd)
theorem gU {M : Model} {A : Around} {E : Value → Shared → Prop} {i : Nat} {x : Str} {v : V} {u : Value} {Q : Unit → Shared → Prop} (I : Inv X pins σ H s) (hN : X.N.Nodup) (hi : X.N[i]? = some x) (hx : Loc X.env.scope x) (r : RelV v u)
 (h : ∀ s', Inv X pins (σ.set i (some v)) H s' → Q () s') (hf : X.fn x = true ∨ X.env.scope.names.lookup x = some .local := by first | exact .inl rfl | exact .inr rfl | assumption) : wpAny M A (storeName X.env x u) Q E s :=
 oJ I hN hi hx r (fun s' I' _ => h s' I') hf
theorem Inv.call' {s' : Shared} {ch : List Addr} (I : Inv X pins σ H s) (ho : s'.os = s.os) (u : Un (frs X.stack) ch H H' s.heap s'.heap) (hok : HOk X.prog X.w H' s'.heap) (hg : AllBare s'.gens)
 (hch : ∀ b ∈ ch, (b ∈ X.ex ∨ X.s₀.heap.objs.size ≤ b) ∧ b ≠ X.env.locals ∧ (∀ x c, X.env.cells.lookup x = some c → c ≠ b) ∧ ∀ p ∈ X.pn ++ pins, p.1 ≠ b) : Inv X pins σ H' s' := by
 obtain ⟨h', g', d', t', o'⟩ := s'
 have e : o' = s.os := ho
 subst e
 exact I.call (g' := g') (t' := t') (d' := d') u hok hg hch
end
abbrev XK := Value → Option Addr → Hp → Prop
abbrev St := List (Option V)
abbrev VK := V → Hp → Prop
abbrev TE := St → Hp → VK → Prop
abbrev TT := St → Hp → (Bool → Hp → Prop) → Prop
abbrev TA := St → Hp → (List V → Hp → Prop) → Prop
structure oG where
 nx : St → Hp → Prop
 rt : VK
 bk : St → Hp → Prop := fun _ _ => False
 ct : St → Hp → Prop := fun _ _ => False
abbrev TS := oG → St → Hp → Prop
def EP (X : Cx) (pins : List (Addr × Obj)) (σ : St) (Q : VK) (u : Value) (s' : Shared) : Prop := ∃ v H', Inv X pins σ H' s' ∧ RelV v u ∧ Q v H'
def TP (X : Cx) (pins : List (Addr × Obj)) (σ : St) (Q : Bool → Hp → Prop) (b : Bool) (s' : Shared) : Prop := ∃ H', Inv X pins σ H' s' ∧ Q b H'
def AP (X : Cx) (pins : List (Addr × Obj)) (σ : St) (Q : List V → Hp → Prop) (us : List Value) (s' : Shared) : Prop := ∃ vs H', Inv X pins σ H' s' ∧ Vals vs us ∧ Q vs H'
def SP (X : Cx) (pins : List (Addr × Obj)) (D : oG) (f : Flow) (s' : Shared) : Prop :=
 match f with
 | .next => ∃ σ' H', Inv X pins σ' H' s' ∧ D.nx σ' H'
 | .brk => ∃ σ' H', Inv X pins σ' H' s' ∧ D.bk σ' H'
 | .cont => ∃ σ' H', Inv X pins σ' H' s' ∧ D.ct σ' H'
 | .ret u => ∃ v σ' H', Inv X pins σ' H' s' ∧ RelV v u ∧ D.rt v H'
def PE (X : Cx) (e : Expr) (t : TE) : Prop :=
 ∀ (pins : List (Addr × Obj)) (s : Shared) (σ : St) (H : Hp) (Q : VK), Inv X pins σ H s → t σ H Q → wpAny (model X.prog X.w) X.A (eval e X.env) (EP X pins σ Q) X.xe s
def PT (X : Cx) (e : Expr) (t : TT) : Prop :=
 ∀ (pins : List (Addr × Obj)) (s : Shared) (σ : St) (H : Hp) (Q : Bool → Hp → Prop), Inv X pins σ H s → t σ H Q → wpAny (model X.prog X.w) X.A (isTrue e X.env (eval e X.env)) (TP X pins σ Q) X.xe s
def PW (X : Cx) (e : Expr) (t : TT) : Prop :=
 ∀ (whole : Sem Value) (pins : List (Addr × Obj)) (s : Shared) (σ : St) (H : Hp) (Q : Bool → Hp → Prop), Inv X pins σ H s → t σ H Q → wpAny (model X.prog X.w) X.A (isTrue e X.env whole) (TP X pins σ Q) X.xe s
theorem PW.pt {X : Cx} {e : Expr} {t : TT} (h : PW X e t) : PT X e t := h _
def PA (X : Cx) (es : List Expr) (t : TA) : Prop :=
 ∀ (pos : Pos) (pins : List (Addr × Obj)) (s : Shared) (σ : St) (H : Hp) (Q : List V → Hp → Prop), Inv X pins σ H s → t σ H Q → wpAny (model X.prog X.w) X.A (spliced (backTo pos (starEach es X.env))) (AP X pins σ Q) X.xe s
def PS (X : Cx) (st : Stmt) (t : TS) : Prop :=
 ∀ (pins : List (Addr × Obj)) (s : Shared) (σ : St) (H : Hp) (D : oG), Inv X pins σ H s → t D σ H → wpAny (model X.prog X.w) X.A (exec st X.env) (SP X pins D) X.xe s
def PSs (X : Cx) (st : List Stmt) (t : TS) : Prop :=
 ∀ (pins : List (Addr × Obj)) (s : Shared) (σ : St) (H : Hp) (D : oG), Inv X pins σ H s → t D σ H → wpAny (model X.prog X.w) X.A (execs st X.env) (SP X pins D) X.xe s
theorem thn {α : Type} {t : Sem α} {Q Q' : α → Shared → Prop} {M : Model} {A : Around} {E : Value → Shared → Prop} {s : Shared} (h : wpAny M A t Q E s) (hQ : ∀ a s, Q a s → Q' a s) : wpAny M A t Q' E s := wpAny_mono h hQ fun _ _ x => x
section
variable {X : Cx}
def xK (i : Nat) : TE := fun σ H Q => ∃ v, σ[i]? = some (some v) ∧ Q v H
def tC (v : V) : TE := fun _ H Q => Q v H
theorem oK {i : Nat} {x : Str} {pos : Pos} (hN : X.N[i]? = some x) (hv : Vis X.env.scope x) (hd : (x == ("__debug__" : Str)) = false := by decide) (hcd : (x == ("__classdict__" : Str)) = false := by decide) : PE X (.Name x pos) (xK i) := by
 intro pins s σ H Q I h
 obtain ⟨v, e, h⟩ := h
 obtain ⟨m, hn, hl⟩ := I.loc
 obtain ⟨u, r, l⟩ := hl i x v hN e hv
 have fin : EP X pins σ Q u s := ⟨v, H, I, r, h⟩
 rcases l with ⟨hk, hm⟩ | ⟨hk, c, hc, hcell⟩
 · exact wpAny_Name (wpAny_loadName_local I.ok.kind hk hn hm fin) hd
 · rcases hk with hk | hk
   · exact wpAny_Name (wpAny_loadName_cell I.ok.kind hk hc hcell fin) hd
   · exact wpAny_Name (wpAny_loadName_free I.ok.kind hk hc hcell fin hcd) hd
theorem xL {i j pos} : PE X (.Constant (.int i) j pos) (tC (.int i)) := fun _ _ _ H _ I h => wpAny_Constant_int ⟨.int i, H, I.tok _, ⟨_, rfl⟩, h⟩
theorem Bi {b j pos} : PE X (.Constant (.bool b) j pos) (tC (.bl b)) := fun _ _ _ H _ I h => Constant_bool ⟨.bl b, H, I, rfl, h⟩
theorem xM {j pos} : PE X (.Constant .none j pos) (tC .non) := fun _ _ _ H _ I h => Constant_none ⟨.non, H, I, rfl, h⟩
theorem xN {x j pos} : PE X (.Constant (.str x) j pos) (tC (.str x)) := fun _ _ _ H _ I h => Calls.Constant_str ⟨.str x, H, I.tok _, ⟨_, rfl⟩, h⟩
def Gl (X : Cx) (x : Str) : Prop := X.env.kindOf x = some .globalImplicit
theorem h8 {E : Value → Shared → Prop} {pins : List (Addr × Obj)} {s : Shared} {σ : St} {H : Hp} {x : Str} {u : Value} {pos : Pos} {Q : Value → Shared → Prop} (I : Inv X pins σ H s) (hg : Gl X x) (hm : X.mg x = some u) (h : Q u s)
 (hd : (x == ("__debug__" : Str)) = false := by decide) : wpAny (model X.prog X.w) X.A (eval (.Name x pos) X.env) Q E s :=
 Calls.Name_function_global I.ok.kind hg (Calls.loadGlobal_global (by rw [I.ok.glob]; exact I.mod.glob.keeps I.bk) hm h) hd
theorem eW {E : Value → Shared → Prop} {pins : List (Addr × Obj)} {s : Shared} {σ : St} {H : Hp} {x : Str} {u : Value} {pos : Pos} {Q : Value → Shared → Prop} (I : Inv X pins σ H s) (hg : Gl X x) (hm : X.mg x = none) (hv : bootBuiltins x = some u) (h : Q u s)
 (hn : x ≠ "__name__" := by decide) (hd : (x == ("__debug__" : Str)) = false := by decide) : wpAny (model X.prog X.w) X.A (eval (.Name x pos) X.env) Q E s := by
 obtain ⟨mb, h1, h2⟩ := I.mod.blt
 exact Calls.Name_function_global I.ok.kind hg (Calls.loadGlobal_builtin (by rw [I.ok.glob]; exact I.mod.glob.keeps I.bk) hm (by rw [I.ok.blt]; exact h1.keeps I.bk) ((h2 x hn).trans hv) h) hd
theorem lu {x : Str} {v : V} {u : Value} {pos : Pos} (hg : Gl X x) (hm : X.mg x = some u) (r : RelV v u) (hd : (x == ("__debug__" : Str)) = false := by decide) : PE X (.Name x pos) (tC v) :=
 fun _ _ _ H _ I h => h8 I hg hm ⟨v, H, I, r, h⟩ hd
theorem oM {x : Str} {v : V} {u : Value} {pos : Pos} (hg : Gl X x) (hm : X.mg x = none) (hv : bootBuiltins x = some u) (r : RelV v u) (hn : x ≠ "__name__" := by decide) (hd : (x == ("__debug__" : Str)) = false := by decide) : PE X (.Name x pos) (tC v) :=
 fun _ _ _ H _ I h => eW I hg hm hv ⟨v, H, I, r, h⟩ hn hd
variable {a b : Expr} {ta tb : TE} {pos : Pos}
def tB (t : TE) : TT := fun σ H Q => t σ H fun x H1 => ∃ c, x = .bl c ∧ Q c H1
theorem xO {e : Expr} {t : TE} (h : PE X e t) (he : ∀ whole, isTrue e X.env whole = (do let v ← whole; standAt e.pos; holding [v] (truthy v)) := by intro _; rfl) : PT X e (tB t) := by
 intro pins s σ H Q I hw
 refine isTrue_plain (thn (h pins s σ H _ I hw) fun v s1 ⟨x, H1, I1, r1, q1⟩ => ?_) (he _)
 obtain ⟨d, rfl, q⟩ := q1
 cases r1
 exact wpAny_truthy_bool ⟨H1, I1, q⟩
variable {tA tB' : TT} {rest : List Expr}
def DV (t u : TT) : TT := fun σ H Q => t σ H fun c H1 => if c = true then u σ H1 Q else Q false H1
def tOr (t u : TT) : TT := fun σ H Q => t σ H fun c H1 => if c = true then Q true H1 else u σ H1 Q
def DW (t : TT) : TT := fun σ H Q => t σ H fun c H1 => Q (!c) H1
theorem uS (ha : PT X a tA) : PW X (.BoolOp .And [a] pos) tA := by
 intro wh pins s σ H Q I h
 refine isTrue_and (thn (ha pins s σ H Q I h) fun c s1 e => ?_)
 cases c with
 | true => exact isTrue_and_nil e
 | false => exact e
theorem xP (ha : PT X a tA) : PW X (.BoolOp .Or [a] pos) tA := by
 intro wh pins s σ H Q I h
 refine isTrue_or (thn (ha pins s σ H Q I h) fun c s1 e => ?_)
 cases c with
 | false => exact isTrue_or_nil e
 | true => exact e
theorem xQ (ha : PT X a tA) (hb : PW X (.BoolOp .And (b :: rest) pos) tB') : PW X (.BoolOp .And (a :: b :: rest) pos) (DV tA tB') := by
 intro wh pins s σ H Q I h
 refine isTrue_and (thn (ha pins s σ H _ I h) fun c s1 ⟨H1, I1, q1⟩ => ?_)
 cases c with
 | true => exact hb wh pins s1 σ H1 Q I1 q1
 | false => exact ⟨H1, I1, q1⟩
theorem Bj (ha : PT X a tA) (hb : PW X (.BoolOp .Or (b :: rest) pos) tB') : PW X (.BoolOp .Or (a :: b :: rest) pos) (tOr tA tB') := by
 intro wh pins s σ H Q I h
 refine isTrue_or (thn (ha pins s σ H _ I h) fun c s1 ⟨H1, I1, q1⟩ => ?_)
 cases c with
 | true => exact ⟨H1, I1, q1⟩
 | false => exact hb wh pins s1 σ H1 Q I1 q1
theorem xR (ha : PT X a tA) : PT X (.UnaryOp .Not a pos) (DW tA) := by
 intro pins s σ H Q I h
 exact isTrue_not (ha pins s σ H (fun c H1 => Q (!c) H1) I h)
def Bk (ta tb : TE) : TE := fun σ H Q => ta σ H fun x H1 => ∃ c, x = .bl c ∧ if c = true then tb σ H1 Q else Q (.bl false) H1
def DX (ta tb : TE) : TE := fun σ H Q => ta σ H fun x H1 => ∃ c, x = .bl c ∧ if c = true then Q (.bl true) H1 else tb σ H1 Q
def Bl (ta : TE) : TE := fun σ H Q => ta σ H fun x H1 => ∃ c, x = .bl c ∧ Q (.bl (!c)) H1
theorem xS {op} {t : TE} (h : PE X a t) : PE X (.BoolOp op [a] pos) t := fun pins s σ H Q I hw => BoolOp_one (h pins s σ H Q I hw)
theorem xT (ha : PE X a ta) (hb : PE X (.BoolOp .And (b :: rest) pos) tb) : PE X (.BoolOp .And (a :: b :: rest) pos) (Bk ta tb) := by
 intro pins s σ H Q I h
 refine BoolOp_and (thn (ha pins s σ H _ I h) fun v s1 ⟨x, H1, I1, r1, q1⟩ => ?_)
 obtain ⟨c, rfl, q1⟩ := q1
 cases r1
 refine wpAny_truthy_bool ?_
 cases c with
 | true => exact hb pins s1 σ H1 Q I1 q1
 | false => exact ⟨.bl false, H1, I1, rfl, q1⟩
theorem Bm (ha : PE X a ta) (hb : PE X (.BoolOp .Or (b :: rest) pos) tb) : PE X (.BoolOp .Or (a :: b :: rest) pos) (DX ta tb) := by
 intro pins s σ H Q I h
 refine BoolOp_or (thn (ha pins s σ H _ I h) fun v s1 ⟨x, H1, I1, r1, q1⟩ => ?_)
 obtain ⟨c, rfl, q1⟩ := q1
 cases r1
 refine wpAny_truthy_bool ?_
 cases c with
 | false => exact hb pins s1 σ H1 Q I1 q1
 | true => exact ⟨.bl true, H1, I1, rfl, q1⟩
theorem xU (ha : PE X a ta) : PE X (.UnaryOp .Not a pos) (Bl ta) := by
 intro pins s σ H Q I h
 refine UnaryOp_ (thn (ha pins s σ H _ I h) fun v s1 ⟨x, H1, I1, r1, q1⟩ => ?_)
 obtain ⟨c, rfl, q1⟩ := q1
 cases r1
 exact not_of (wpAny_truthy_bool ⟨.bl (!c), H1, I1, rfl, q1⟩)
def tIf (t : TT) (ta tb : TE) : TE := fun σ H Q => t σ H fun c H1 => if c = true then ta σ H1 Q else tb σ H1 Q
theorem rQ {c : Expr} (hc : PT X c tA) (ha : PE X a ta) (hb : PE X b tb) : PE X (.IfExp c a b pos) (tIf tA ta tb) := by
 intro pins s σ H Q I h
 refine wpAny_IfExp (thn (hc pins s σ H _ I h) fun d s1 ⟨H1, I1, q1⟩ => ?_)
 cases d with
 | true => exact ha pins s1 σ H1 Q I1 q1
 | false => exact hb pins s1 σ H1 Q I1 q1
end
def SqL (K : PySem.W.Frag) (H : Hp) (a : Addr) (xs : List V) : Prop :=
 Rd H a (.lst xs) ∨
  ∃ (o : Obj) (its : Array Value) (n : Nat), K.lookup a = some o ∧ o.cls = .type "list" ∧ o.dict = none ∧ o.data = .seq its n ∧ its.size ≤ sizeLine ∧ Vals xs its.toList
def SqT (K : PySem.W.Frag) (H : Hp) (a : Addr) (xs : List V) : Prop :=
 Rd H a (.tup xs) ∨
  ∃ (o : Obj) (its : Array Value) (n : Nat), K.lookup a = some o ∧ o.cls = .type "tuple" ∧ o.data = .seq its n ∧ its.size ≤ sizeLine ∧ Vals xs its.toList
def DY : Value → Option V
 | .none => some .non
 | .bool b => some (.bl b)
 | .int i _ => some (.int i)
 | .str x _ => some (.str x)
 | .bytes b _ => some (.byt b)
 | .float b _ => some (.flt b)
 | .ref a => some (.ref a)
 | .type n => some (.ty n)
 | _ => none
theorem RelV.abs {x : V} {u : Value} (r : RelV x u) : DY u = some x := by
 cases x with
 | non => cases r; rfl
 | bl _ => cases r; rfl
 | int _ => obtain ⟨t, rfl⟩ := r; rfl
 | str _ => obtain ⟨t, rfl⟩ := r; rfl
 | byt _ => obtain ⟨t, rfl⟩ := r; rfl
 | flt _ => obtain ⟨t, rfl⟩ := r; rfl
 | ref _ => cases r; rfl
 | ty _ => cases r; rfl
theorem RelV.inj {x y : V} {u : Value} (r : RelV x u) (q : RelV y u) : x = y := Option.some.inj (r.abs.symm.trans q.abs)
theorem Vals.inj : ∀ {xs ys : List V} {us : List Value}, Vals xs us → Vals ys us → xs = ys
 | _, _, _, .nil, .nil => rfl
 | _, _, _, .cons r t, .cons r' t' => by rw [r.inj r', Vals.inj t t']
section
variable {X : Cx} {pins : List (Addr × Obj)} {σ : St} {H : Hp} {s : Shared} {a : Addr} {xs ys : List V}
theorem SqL.of {K : PySem.W.Frag} (h : H a = some (.lst xs)) : SqL K H a xs := .inl (.inl h)
theorem SqT.of {K : PySem.W.Frag} (h : H a = some (.tup xs)) : SqT K H a xs := .inl (.inl h)
theorem Inv.list (I : Inv X pins σ H s) (h : SqL X.K H a xs) : ∃ its : List Value, Vals xs its ∧ PlainL s.heap a its.toArray ∧ xs.length ≤ sizeLine := by
 rcases h with h | ⟨o, its, n, hk, hc, hd, hs, hz, r⟩
 · obtain ⟨z, its, n, r, e⟩ := h.ok I.hok
   exact ⟨its, r, ⟨_, n, e, rfl, rfl, rfl⟩, z⟩
 · refine ⟨its.toList, r, ⟨o, n, I.kIn a o hk, hc, hd, by simpa using hs⟩, ?_⟩
   have e := r.length
   simp only [Array.length_toList] at e
   omega
theorem Inv.tuple (I : Inv X pins σ H s) (h : SqT X.K H a xs) : ∃ its : List Value, Vals xs its ∧ IsTup s.heap a its.toArray ∧ xs.length ≤ sizeLine := by
 rcases h with h | ⟨o, its, n, hk, hc, hs, hz, r⟩
 · obtain ⟨z, its, r, p⟩ := h.ok I.hok
   exact ⟨its, r, p, z⟩
 · refine ⟨its.toList, r, ⟨o, I.kIn a o hk, hc, n, by simpa using hs⟩, ?_⟩
   have e := r.length
   simp only [Array.length_toList] at e
   omega
theorem Inv.list_inj (I : Inv X pins σ H s) (h : SqL X.K H a xs) (h' : SqL X.K H a ys) : xs = ys := by
 obtain ⟨its, r, ⟨o, n, e, _, _, d⟩, _⟩ := I.list h
 obtain ⟨its', r', ⟨o', n', e', _, _, d'⟩, _⟩ := I.list h'
 rw [e] at e'; cases e'
 rw [d] at d'
 injection d' with d1 _
 have : its = its' := by simpa using congrArg Array.toList d1
 subst this
 exact r.inj r'
theorem Inv.tuple_inj (I : Inv X pins σ H s) (h : SqT X.K H a xs) (h' : SqT X.K H a ys) : xs = ys := by
 obtain ⟨its, r, ⟨o, e, _, n, d⟩, _⟩ := I.tuple h
 obtain ⟨its', r', ⟨o', e', _, n', d'⟩, _⟩ := I.tuple h'
 rw [e] at e'; cases e'
 rw [d] at d'
 injection d' with d1 _
 have : its = its' := by simpa using congrArg Array.toList d1
 subst this
 exact r.inj r'
end
abbrev Cx.wish (X : Cx) (E : Value → Shared → Prop) : Cx := { X with xe := E }
abbrev Cx.nox (X : Cx) : Cx := X.wish fun _ _ => False
theorem Cx.Ok.wish {X : Cx} (ok : X.Ok) (E : Value → Shared → Prop) : (X.wish E).Ok :=
 ⟨ok.mod, ok.kind, ok.glob, ok.blt, ok.above, ok.inj, ok.has, ok.cab, ok.hd, ok.frames, ok.stk, ok.exf, ok.bs, ok.bsz, ok.noex, ok.exfs, ok.funs, ok.frf⟩
theorem Cx.Ok.unwish {X : Cx} {E : Value → Shared → Prop} (ok : (X.wish E).Ok) : X.Ok :=
 ⟨ok.mod, ok.kind, ok.glob, ok.blt, ok.above, ok.inj, ok.has, ok.cab, ok.hd, ok.frames, ok.stk, ok.exf, ok.bs, ok.bsz, ok.noex, ok.exfs, ok.funs, ok.frf⟩
section
variable {X : Cx} {pins : List (Addr × Obj)} {σ : St} {H : Hp} {s : Shared} {E : Value → Shared → Prop}
theorem Inv.wish (I : Inv X pins σ H s) (E : Value → Shared → Prop) : Inv (X.wish E) pins σ H s := ⟨I.ok.wish E, I.os, I.bare, I.base, I.loc, I.cell, I.free, I.freeC, I.pin, I.hok, I.len⟩
theorem Inv.unwish (I : Inv (X.wish E) pins σ H s) : Inv X pins σ H s := ⟨I.ok.unwish, I.os, I.bare, I.base, I.loc, I.cell, I.free, I.freeC, I.pin, I.hok, I.len⟩
theorem SP.unwish {D : oG} {f : Flow} {s' : Shared} (h : SP (X.wish E) pins D f s') : SP X pins D f s' := by
 cases f with
 | next => obtain ⟨σ', H', I, q⟩ := h; exact ⟨σ', H', I.unwish, q⟩
 | brk => obtain ⟨σ', H', I, q⟩ := h; exact ⟨σ', H', I.unwish, q⟩
 | cont => obtain ⟨σ', H', I, q⟩ := h; exact ⟨σ', H', I.unwish, q⟩
 | ret u => obtain ⟨v, σ', H', I, r, q⟩ := h; exact ⟨v, σ', H', I.unwish, r, q⟩
theorem PE.nox {e : Expr} {t : TE} (h : PE X.nox e t) : PE X e t := fun pins s σ H Q I hw =>
 wpAny_mono (h pins s σ H Q (I.wish _) hw) (fun _ _ ⟨v, H', I', r, q⟩ => ⟨v, H', I'.unwish, r, q⟩) fun _ _ z => False.elim z
theorem PT.nox {e : Expr} {t : TT} (h : PT X.nox e t) : PT X e t := fun pins s σ H Q I hw =>
 wpAny_mono (h pins s σ H Q (I.wish _) hw) (fun _ _ ⟨H', I', q⟩ => ⟨H', I'.unwish, q⟩) fun _ _ z => False.elim z
theorem PSs.nox {st : List Stmt} {t : TS} (h : PSs X.nox st t) : PSs X st t := fun pins s σ H D I hw =>
 wpAny_mono (h pins s σ H D (I.wish _) hw) (fun _ _ q => q.unwish) fun _ _ z => False.elim z
end
section
variable {X : Cx} {st : Stmt} {rest : List Stmt} {t u : TS} {e : Expr} {te : TE} {pos : Pos}
def Bn : TS := fun D σ H => D.nx σ H
def DZ (t u : TS) : TS := fun D σ H => t { D with nx := u D } σ H
theorem oN : PSs X [] Bn := fun _ _ σ H _ I h => wpAny_execs_nil ⟨σ, H, I, h⟩
theorem jo (h1 : PS X st t) (h2 : PSs X rest u) : PSs X (st :: rest) (DZ t u) := by
 intro pins s σ H D I h
 refine wpAny_execs_cons (thn (h1 pins s σ H { D with nx := u D } I h) fun f s1 q => ?_)
 cases f with
 | next =>
  obtain ⟨σ', H', I', q⟩ := q
  exact h2 pins s1 σ' H' D I' q
 | ret v => exact q
 | brk => exact q
 | cont => exact q
theorem oO (h1 : PS X st t) : PSs X [st] t := by
 intro pins s σ H D I h
 refine wpAny_execs_cons (thn (h1 pins s σ H D I h) fun f s1 q => ?_)
 cases f with
 | next => exact wpAny_execs_nil q
 | ret v => exact q
 | brk => exact q
 | cont => exact q
theorem Inv.quiet {pins : List (Addr × Obj)} {σ : St} {H : Hp} {s : Shared} (I : Inv X pins σ H s) : interactive X.env = false := by simp [interactive, I.ok.kind]
def Bo (te : TE) : TS := fun D σ H => te σ H fun _ H1 => D.nx σ H1
theorem oP (he : PE X e te) (hs : swapsWith e none pos.line X.env = pure false := by rfl) : PS X (.Expr e pos) (Bo te) := by
 intro pins s σ H D I h
 exact wpAny_Expr_any (thn (he pins s σ H _ I h) fun v s1 ⟨x, H1, I1, r1, q1⟩ => ⟨σ, H1, I1, q1⟩) I.quiet hs
def D4 (te : TE) : TS := fun D σ H => te σ H D.rt
theorem tV (he : PE X e te) : PS X (.Return (some e) pos) (D4 te) := by
 intro pins s σ H D I h
 exact wpAny_Return_some (thn (he pins s σ H _ I h) fun v s1 ⟨x, H1, I1, r1, q1⟩ => ⟨x, σ, H1, I1, r1, q1⟩)
def D6 (c : TT) (t u : TS) : TS := fun D σ H => c σ H fun b H1 => if b = true then t D σ H1 else u D σ H1
theorem xV {c : Expr} {a b : List Stmt} {tc : TT} (hc : PT X c tc) (ha : PSs X a t) (hb : PSs X b u) : PS X (.If c a b pos) (D6 tc t u) := by
 intro pins s σ H D I h
 refine wpAny_If (thn (hc pins s σ H _ I h) fun d s1 ⟨H1, I1, q1⟩ => ?_)
 cases d with
 | true => exact ha pins s1 σ H1 D I1 q1
 | false => exact hb pins s1 σ H1 D I1 q1
end
abbrev TG := V → St → Hp → (St → Hp → Prop) → Prop
abbrev TGs := List V → St → Hp → (St → Hp → Prop) → Prop
def PG (X : Cx) (target : Expr) (t : TG) : Prop :=
 ∀ (pins : List (Addr × Obj)) (s : Shared) (σ : St) (H : Hp) (v : V) (u : Value) (Q : St → Hp → Prop), Inv X pins σ H s → RelV v u → t v σ H Q →
  wpAny (model X.prog X.w) X.A (assign target X.env u) (fun _ s' => ∃ σ' H', Inv X pins σ' H' s' ∧ Q σ' H') X.xe s
def PGs (X : Cx) (ts : List Expr) (t : TGs) : Prop :=
 ∀ (pins : List (Addr × Obj)) (s : Shared) (σ : St) (H : Hp) (vs : List V) (us : List Value) (Q : St → Hp → Prop), Inv X pins σ H s → Vals vs us → t vs σ H Q →
  wpAny (model X.prog X.w) X.A (assignInOrder ((assignEach ts X.env).map (·.2)) us) (fun _ s' => ∃ σ' H', Inv X pins σ' H' s' ∧ Q σ' H') X.xe s
section
variable {X : Cx} {pos : Pos}
def lv (i : Nat) : TG := fun v σ H Q => Q (σ.set i (some v)) H
theorem gl {i : Nat} {x : Str} (hN : X.N.Nodup) (hi : X.N[i]? = some x) (hx : Loc X.env.scope x) (hf : X.fn x = true ∨ X.env.scope.names.lookup x = some .local := by first | exact .inl rfl | exact .inr rfl | assumption) : PG X (.Name x pos) (lv i) := by
 intro pins s σ H v u Q I r h
 exact wpAny_assign_Name (gU I hN hi hx r (fun s' I' => ⟨_, H, I', h⟩) hf)
def D7 : TGs := fun vs σ H Q => vs = [] ∧ Q σ H
def Bp (t : TG) (u : TGs) : TGs := fun vs σ H Q => ∃ v r, vs = v :: r ∧ t v σ H fun σ' H' => u r σ' H' Q
theorem uT : PGs X [] D7 := by
 intro pins s σ H vs us Q I r h
 obtain ⟨e, h⟩ := h
 subst e
 cases r
 exact assignInOrder_nil ⟨σ, H, I, h⟩
theorem mD {e : Expr} {es : List Expr} {t : TG} {u : TGs} (h1 : PG X e t) (h2 : PGs X es u)
 (hs : (assignEach (e :: es) X.env).map (·.2) = assign e X.env :: (assignEach es X.env).map (·.2) := by rfl) : PGs X (e :: es) (Bp t u) := by
 intro pins s σ H vs us Q I r h
 obtain ⟨v, vr, e1, h⟩ := h
 subst e1
 cases r with
 | cons r rr =>
  rw [hs]
  refine assignInOrder_cons (thn (h1 pins s σ H _ _ _ I r h) fun _ s1 ⟨σ1, H1, I1, q1⟩ => ?_)
  exact h2 pins s1 σ1 H1 _ _ Q I1 rr q1
def D8 (K : PySem.W.Frag) (n : Nat) (t : TGs) : TG := fun v σ H Q => ∃ a xs, v = .ref a ∧ SqT K H a xs ∧ xs.length = n ∧ t xs σ H Q
theorem xW {es : List Expr} {k : Nat} {t : TGs} {n : Nat} (hc : X.calm = true) (h : PGs X es t)
 (hn : (assignEach es X.env).length = n := by rfl) (hst : (assignEach es X.env).findIdx? (·.1) = none := by rfl) : PG X (.Tuple es k pos) (D8 X.K n t) := by
 intro pins s σ H v u Q I r hw
 obtain ⟨a, xs, e1, hq, hl, hw⟩ := hw
 subst e1
 cases r
 obtain ⟨its, rv, ht, hz⟩ := I.tuple hq
 refine assign_Tuple_tuple (I.ok.hd hc) ht (by simp [hn, ← hl, rv.length]) hst fun h' hx => ?_
 have I1 : Inv X pins σ H { s with heap := h' } := I.kept (t' := s.toks) fun b o e => hx b o (Nat.ne_of_lt (Heap.lt_size e)) e
 exact h pins _ σ H xs _ Q I1 (by simpa using rv) hw
def Ea (te : TE) (g : TG) : TS := fun D σ H => te σ H fun x H1 => g x σ H1 D.nx
theorem oQ {i : Nat} {x : Str} {e : Expr} {te : TE} {pos' : Pos} (hN : X.N.Nodup) (hi : X.N[i]? = some x) (hx : Loc X.env.scope x) (he : PE X e te) (hs : swapsWith e (some (.Name x pos')) pos.line X.env = pure false := by rfl) (hf : X.fn x = true ∨ X.env.scope.names.lookup x = some .local := by first | exact .inl rfl | exact .inr rfl | assumption) :
 PS X (.Assign [.Name x pos'] e pos) (Ea te (lv i)) := by
 intro pins s σ H D I h
 refine wpAny_Assign_Name (thn (he pins s σ H _ I h) fun v s1 ⟨y, H1, I1, r1, q1⟩ => ?_) hs
 exact gU I1 hN hi hx r1 (fun s2 I2 => ⟨_, H1, I2, q1⟩) hf
end
section
variable {X : Cx} {pos : Pos}
end
structure It where
 go : Nat → Hp → Prop
 yld : Nat → Hp → V → Hp → Prop
 stop : Nat → Hp → Prop
def rJ (X : Cx) (pins : List (Addr × Obj)) (H : Hp) (b : Addr) : Prop :=
 H b = none ∧ b ≠ X.env.locals ∧ b ∉ X.fs ∧ (b ∈ X.ex ∨ X.s₀.heap.objs.size ≤ b) ∧ (∀ x c, X.env.cells.lookup x = some c → c ≠ b) ∧ ∀ p ∈ X.pn ++ pins, p.1 ≠ b
theorem Inv.fpOk {X : Cx} {pins : List (Addr × Obj)} {σ : St} {H H' : Hp} {s : Shared} {b : Addr} (I : Inv X pins σ H s) (hb : s.heap.objs.size ≤ b) (hn : H' b = none) : rJ X pins H' b := by
 refine ⟨hn, Nat.ne_of_gt (Nat.lt_of_lt_of_le I.lt hb), I.nofs hb, .inr (Nat.le_trans I.sz hb), fun x c e z => ?_, fun p hp z => ?_⟩
 · obtain ⟨v, q⟩ := I.cell x c e
   exact absurd (Nat.lt_of_lt_of_le q.lt (by rw [z]; exact hb)) (Nat.lt_irrefl _)
 · exact absurd (Nat.lt_of_lt_of_le (Heap.lt_size (I.pin p hp).1) (by rw [z]; exact hb)) (Nat.lt_irrefl _)
structure tW (P : Program) (w : World) (K : PySem.W.Frag) (tg : Expr) (J : It) (fp : List Addr) (it : Addr) (tn : Nat → Heap → Prop) : Prop where
 mem : it ∈ fp
 obj : ∀ i h, tn i h → ∀ b ∈ fp, ∃ o, h.get? b = some o ∧ ∀ v, o.data ≠ .cell v
 keep : ∀ i h h', tn i h → (∀ b ∈ fp, ∀ o, h.get? b = some o → h'.get? b = some o) → tn i h'
 item : ∀ (X : Cx), X.prog = P → X.w = w → X.K = K → X.calm = true → ∀ (i : Nat) (pins : List (Addr × Obj)) (s : Shared) (σ : St) (H : Hp) (E : Value → Shared → Prop), Inv X pins σ H s → (∀ b ∈ fp, rJ X pins H b) → tn i s.heap → J.go i H →
  wpAny (model P w) X.A (pyNext (.ref it)) (fun r s1 => ∃ u, r = some u ∧
   wpAny (model P w) X.A (letOwnedTupleGo tg (.ref it) u) (fun _ s2 => ∃ x H', Inv X pins σ H' s2 ∧ RelV x u ∧ J.yld i H x H' ∧ tn (i + 1) s2.heap ∧ ∀ b ∈ fp, H' b = none) E s1) E s
 done : ∀ (X : Cx), X.prog = P → X.w = w → X.K = K → X.calm = true → ∀ (i : Nat) (pins : List (Addr × Obj)) (s : Shared) (σ : St) (H : Hp) (E : Value → Shared → Prop), Inv X pins σ H s → (∀ b ∈ fp, rJ X pins H b) → tn i s.heap → J.stop i H →
  wpAny (model P w) X.A (pyNext (.ref it)) (fun r s1 => r = none ∧ Inv X pins σ H s1) E s
 self : ∀ (A : Around) (i : Nat) (s : Shared) (Q : Value → Shared → Prop) (E : Value → Shared → Prop), tn i s.heap → Q (.ref it) s → wpAny (model P w) A (pyIter (.ref it)) Q E s
abbrev TI := St → Hp → (It → Hp → Prop) → Prop
def PIE (X : Cx) (pins : List (Addr × Obj)) (σ : St) (tg : Expr) (R : It → Hp → Prop) (itv : Value) (s2 : Shared) : Prop :=
 ∃ (it : Addr) (fp : List Addr) (tn : Nat → Heap → Prop) (J : It) (H' : Hp), itv = .ref it ∧ Inv X pins σ H' s2 ∧ tW X.prog X.w X.K tg J fp it tn ∧ tn 0 s2.heap ∧ (∀ b ∈ fp, rJ X pins H' b) ∧ R J H'
def PI (X : Cx) (tg iter : Expr) (wi : TI) : Prop :=
 ∀ (pins : List (Addr × Obj)) (s : Shared) (σ : St) (H : Hp) (R : It → Hp → Prop), Inv X pins σ H s → wi σ H R →
  wpAny (model X.prog X.w) X.A (eval iter X.env) (fun v s1 => wpAny (model X.prog X.w) X.A (pyIter v) (PIE X pins σ tg R) X.xe s1) X.xe s
theorem lw {M : Model} {A : Around} {E : Value → Shared → Prop} {s : Shared} {tg : Expr} {it : Addr} {u : Value} {o : Obj} {n : String} {vs : Array Value} {Q : Unit → Shared → Prop} (ho : s.heap.get? it = some o) (hc : o.cls = .type n) (hd : o.data = .fields vs)
 (hn : ["enumerate", "zip", "dict_itemiterator", "dict_reverseitemiterator", "odict_iterator", "itertools.zip_longest", "itertools.pairwise"].contains n = false) (hQ : Q () s) : wpAny M A (letOwnedTupleGo tg (.ref it) u) Q E s := by
 unfold letOwnedTupleGo
 cases tg <;> first
  | exact wpAny_pure hQ
  | (cases u <;> first
      | exact wpAny_pure hQ
      | (refine wpAny_bind (wpAny_load ho ?_)
         rw [hc, hd]
         show wpAny M A (if (["enumerate", "zip", "dict_itemiterator", "dict_reverseitemiterator", "odict_iterator", "itertools.zip_longest", "itertools.pairwise"].contains n && vs[0]? == some (rawInt _)) = true then _ else _) Q E s
         rw [if_neg (by intro h; rw [hn, Bool.false_and] at h; cases h)]
         exact wpAny_pure hQ))
def Itl (K : PySem.W.Frag) (a : Addr) : It :=
 ⟨fun i H => ∃ xs x, SqL K H a xs ∧ xs[i]? = some x, fun i H x H' => H' = H ∧ ∀ xs, SqL K H a xs → xs[i]? = some x, fun i H => ∃ xs, SqL K H a xs ∧ xs.length ≤ i⟩
def Itt (K : PySem.W.Frag) (a : Addr) : It :=
 ⟨fun i H => ∃ xs x, SqT K H a xs ∧ xs[i]? = some x, fun i H x H' => H' = H ∧ ∀ xs, SqT K H a xs → xs[i]? = some x, fun i H => ∃ xs, SqT K H a xs ∧ xs.length ≤ i⟩
def Itr (lo : Int) (n : Nat) : It := ⟨fun i _ => i < n, fun i H x H' => H' = H ∧ x = .int (lo + i), fun i _ => n ≤ i⟩
theorem oR {P : Program} {w : World} {K : PySem.W.Frag} {tg : Expr} (a it : Addr) : tW P w K tg (Itl K a) [it] it (fun i h => h.IsListIter it a i) where
 mem := by simp
 obj := fun i h st b hb => by
  have e : b = it := by simpa using hb
  subst e
  obtain ⟨o, e, c, d⟩ := st
  exact ⟨o, e, fun v z => by rw [d] at z; cases z⟩
 keep := fun i h h' st k => st.at fun o e => k it (by simp) o e
 item := by
  intro X hP hw hK hc i pins s σ H E I hf st hg
  subst hP hw hK
  obtain ⟨xs, x, hq, hx⟩ := hg
  obtain ⟨its, rv, p, hz⟩ := I.list hq
  obtain ⟨u, hu, ru⟩ := rv.get hx
  obtain ⟨f0, f1, f2, f3, f4, f5⟩ := hf it (by simp)
  refine wpAny_pyNext_list_item st p.isList (x := u) (by simpa using hu) fun h' st' sb => ?_
  have I1 : Inv X pins σ H { s with heap := h' } := I.turned (t' := s.toks) (fun b o hb e => (sb.2 b hb).trans e) f0 f1 f3 f4 f5
  obtain ⟨o, e, c, d⟩ := id st'
  exact ⟨u, rfl, lw (s := { s with heap := h' }) e c d (by decide) ⟨x, H, I1, ru, ⟨rfl, fun ys hy => by rw [I.list_inj hy hq]; exact hx⟩, st', fun b hb => (hf b hb).1⟩⟩
 done := by
  intro X hP hw hK hc i pins s σ H E I hf st hg
  subst hP hw hK
  obtain ⟨xs, hq, hx⟩ := hg
  obtain ⟨its, rv, p, hz⟩ := I.list hq
  obtain ⟨f0, f1, f2, f3, f4, f5⟩ := hf it (by simp)
  have hl := rv.length
  exact wpAny_pyNext_list_end (I.ok.hd hc) st p.isList (by simp; omega) fun h' eb => ⟨rfl, I.turned (t' := s.toks) (fun b o hb e => eb b o hb e) f0 f1 f3 f4 f5⟩
 self := fun _ _ _ _ _ st h => wpAny_pyIter_listiter st h
theorem nW {P : Program} {w : World} {K : PySem.W.Frag} {tg : Expr} (a it : Addr) : tW P w K tg (Itt K a) [it] it (fun i h => h.IsTupleIter it a i) where
 mem := by simp
 obj := fun i h st b hb => by
  have e : b = it := by simpa using hb
  subst e
  obtain ⟨o, e, c, d⟩ := st
  exact ⟨o, e, fun v z => by rw [d] at z; cases z⟩
 keep := fun i h h' st k => st.at fun o e => k it (by simp) o e
 item := by
  intro X hP hw hK hc i pins s σ H E I hf st hg
  subst hP hw hK
  obtain ⟨xs, x, hq, hx⟩ := hg
  obtain ⟨its, rv, p, hz⟩ := I.tuple hq
  obtain ⟨u, hu, ru⟩ := rv.get hx
  obtain ⟨f0, f1, f2, f3, f4, f5⟩ := hf it (by simp)
  refine wpAny_pyNext_tuple_item st (show s.heap.IsTuple a its.toArray from p) (x := u) (by simpa using hu) fun h' st' sb => ?_
  have I1 : Inv X pins σ H { s with heap := h' } := I.turned (t' := s.toks) (fun b o hb e => (sb.2 b hb).trans e) f0 f1 f3 f4 f5
  obtain ⟨o, e, c, d⟩ := id st'
  exact ⟨u, rfl, lw (s := { s with heap := h' }) e c d (by decide) ⟨x, H, I1, ru, ⟨rfl, fun ys hy => by rw [I.tuple_inj hy hq]; exact hx⟩, st', fun b hb => (hf b hb).1⟩⟩
 done := by
  intro X hP hw hK hc i pins s σ H E I hf st hg
  subst hP hw hK
  obtain ⟨xs, hq, hx⟩ := hg
  obtain ⟨its, rv, p, hz⟩ := I.tuple hq
  obtain ⟨f0, f1, f2, f3, f4, f5⟩ := hf it (by simp)
  have hl := rv.length
  exact wpAny_pyNext_tuple_end (I.ok.hd hc) st (show s.heap.IsTuple a its.toArray from p) (by simp; omega) fun h' eb => ⟨rfl, I.turned (t' := s.toks) (fun b o hb e => eb b o hb e) f0 f1 f3 f4 f5⟩
 self := fun _ _ _ _ _ st h => wpAny_pyIter_tupleiter st h
theorem nX {P : Program} {w : World} {K : PySem.W.Frag} {tg : Expr} (it : Addr) (lo : Int) (n : Nat) : tW P w K tg (Itr lo n) [it] it (fun i h => IsRangeIter h it (lo + (i : Nat) * 1) ((n : Int) - (i : Nat)) 1) where
 mem := by simp
 obj := fun i h st b hb => by
  have e : b = it := by simpa using hb
  subst e
  exact ⟨_, st, fun v z => by
   have z' : Data.fields _ = Data.cell v := z
   cases z'⟩
 keep := fun i h h' st k => k it (by simp) _ st
 item := by
  intro X hP hw hK hc i pins s σ H E I hf st hg
  subst hP hw hK
  obtain ⟨f0, f1, f2, f3, f4, f5⟩ := hf it (by simp)
  have W := Walks.range (prog := X.prog) (w := X.w) (I.ok.hd hc) it lo 1 n
  refine W.item i s _ _ hg st fun v h' tk hv st' kk => ?_
  obtain ⟨t, rfl⟩ := hv
  have I1 : Inv X pins σ H { s with heap := h', toks := tk } := I.turned (fun b o hb e => kk b o (by simpa using hb) e) f0 f1 f3 f4 f5
  refine ⟨_, rfl, lw (s := { s with heap := h', toks := tk }) (n := "range_iterator") st' rfl rfl (by decide) ⟨.int (lo + i), H, I1, ⟨t, ?_⟩, ⟨rfl, rfl⟩, st', fun b hb => (hf b hb).1⟩⟩
  rw [Int.mul_one]
 done := by
  intro X hP hw hK hc i pins s σ H E I hf st hg
  subst hP hw hK
  obtain ⟨f0, f1, f2, f3, f4, f5⟩ := hf it (by simp)
  exact wpAny_pyNext_range_end (I.ok.hd hc) st (by have : n ≤ i := hg; omega) fun h' eb => ⟨rfl, I.turned (t' := s.toks) (fun b o hb e => eb b o hb e) f0 f1 f3 f4 f5⟩
 self := fun _ _ _ _ _ st h => wpAny_pyIter_rangeiter st h
section
variable {X : Cx} {tg : Expr}
theorem mE {pins : List (Addr × Obj)} {σ : St} {H : Hp} {s : Shared} {R : It → Hp → Prop} {E : Value → Shared → Prop} {lo hi : Int} {t u v : Tok} {tk : Nat} (I : Inv X pins σ H s) (h1 : -(2 ^ 62) ≤ lo) (h2 : lo < 2 ^ 62) (h3 : -(2 ^ 62) ≤ hi) (h4 : hi < 2 ^ 62)
 (q : R (Itr lo (hi - lo).toNat) H) : wpAny (model X.prog X.w) X.A (pyIter (.ref s.heap.objs.size)) (PIE X pins σ tg R) E { s with heap := s.heap.push { cls := .type "range", data := .fields #[.int lo t, .int hi u, .int 1 v] }, toks := tk } := by
 refine wpAny_pyIter_range (IsRange.new ..) (small_one h1 h2 h3 h4) ?_
 have I1 : Inv X pins σ H { s with heap := s.heap.push { cls := .type "range", data := .fields #[.int lo t, .int hi u, .int 1 v] }, toks := tk } := I.kept fun b o e => Heap.get?_push_of_some _ e
 refine ⟨(s.heap.push { cls := .type "range", data := .fields #[.int lo t, .int hi u, .int 1 v] }).objs.size, [(s.heap.push { cls := .type "range", data := .fields #[.int lo t, .int hi u, .int 1 v] }).objs.size], _, _, H, rfl,
  I1.kept (t' := tk) fun b o e => Heap.get?_push_of_some _ e, nX _ lo (hi - lo).toNat, ?_, fun b hb => ?_, q⟩
 · have e1 : lo + ((0 : Nat) : Int) * 1 = lo := by simp
   have e2 : (((hi - lo).toNat : Nat) : Int) - ((0 : Nat) : Int) = Builtin.Range.rangeSize lo hi 1 := by rw [rangeSize_one]; split <;> omega
   show IsRangeIter _ _ (lo + ((0 : Nat) : Int) * 1) ((((hi - lo).toNat : Nat) : Int) - ((0 : Nat) : Int)) 1
   rw [e1, e2]
   exact Heap.get?_push_size _ rfl
 · have e : b = (s.heap.push { cls := .type "range", data := .fields #[.int lo t, .int hi u, .int 1 v] }).objs.size := by simpa using hb
   subst e
   exact I1.fpOk (Nat.le_refl _) (I1.hok.fresh (Nat.le_refl _))
def Bq (ta : TA) : TI := fun σ H R => ta σ H fun vs H1 => ∃ j : Int, vs = [.int j] ∧ -(2 ^ 62) ≤ j ∧ j < 2 ^ 62 ∧ R (Itr 0 j.toNat) H1
def Br (ta : TA) : TI := fun σ H R => ta σ H fun vs H1 => ∃ i j : Int, vs = [.int i, .int j] ∧ (-(2 ^ 62) ≤ i ∧ i < 2 ^ 62 ∧ -(2 ^ 62) ≤ j ∧ j < 2 ^ 62) ∧ R (Itr i (j - i).toNat) H1
theorem oU {a : Expr} {ta : TA} {p pos : Pos} (hg : Gl X "range") (hm : X.mg "range" = none) (ha : PA X [a] ta) (hs : starEach [a] X.env = [(false, eval a X.env)] := by rfl) : PI X tg (.Call (.Name "range" p) [a] [] pos) (Bq ta) := by
 intro pins s σ H R I h
 refine Call_ (eW I hg hm boot_range (PyProof.Rows.callWith_type1 (thn (ha pos pins s σ H _ I h) fun us s1 ⟨vs, H1, I1, r1, q1⟩ => ?_) hs rfl))
 obtain ⟨j, e, q1, q2, q⟩ := q1
 subst e
 cases r1 with
 | cons r rr =>
  cases rr
  obtain ⟨t, rfl⟩ := r
  exact call_range_1 (mE I1 (by omega) (by omega) q1 q2 (by simpa using q))
theorem oV {a b : Expr} {ta : TA} {p pos : Pos} (hg : Gl X "range") (hm : X.mg "range" = none) (ha : PA X [a, b] ta) (hs : starEach [a, b] X.env = [(false, eval a X.env), (false, eval b X.env)] := by rfl) (hs2 : starEach [b] X.env = [(false, eval b X.env)] := by rfl) :
 PI X tg (.Call (.Name "range" p) [a, b] [] pos) (Br ta) := by
 intro pins s σ H R I h
 refine Call_ (eW I hg hm boot_range (PyProof.Rows.callWith_type1 (thn (ha pos pins s σ H _ I h) fun us s1 ⟨vs, H1, I1, r1, q1⟩ => ?_) (by rw [hs, hs2]) (by rw [hs2]; rfl)))
 obtain ⟨i, j, e, ⟨q1, q2, q3, q4⟩, q⟩ := q1
 subst e
 cases r1 with
 | cons r rr =>
  cases rr with
  | cons r' rr =>
   cases rr
   obtain ⟨t, rfl⟩ := r
   obtain ⟨t', rfl⟩ := r'
   exact call_range_2 (mE I1 q1 q2 q3 q4 q)
def Eb (wi : TI) (g : TG) (tb : TS) : TS := fun D σ H => wi σ H fun J H1 => ∃ W : Nat → Nat → St → Hp → Prop, (∃ m, W 0 m σ H1) ∧ ∀ i m σ H, W i m σ H →
 (J.stop i H ∧ D.nx σ H) ∨ (J.go i H ∧ ∃ N : St → Hp → Prop, (∀ σ' H', N σ' H' → ∃ m', m' < m ∧ W (i + 1) m' σ' H') ∧ ∀ x H', J.yld i H x H' → g x σ H' fun σ2 H2 => tb { D with nx := N, ct := N, bk := D.nx } σ2 H2)
def cR (fp : List Addr) (h : Heap) : List (Addr × Obj) := fp.filterMap fun b => (h.get? b).map fun o => (b, o)
theorem ci {fp : List Addr} {h : Heap} {b : Addr} {o : Obj} (hb : b ∈ fp) (e : h.get? b = some o) : (b, o) ∈ cR fp h := List.mem_filterMap.mpr ⟨b, hb, by rw [e]; rfl⟩
theorem ia {fp : List Addr} {h : Heap} {p : Addr × Obj} (hp : p ∈ cR fp h) : p.1 ∈ fp ∧ h.get? p.1 = some p.2 := by
 obtain ⟨b, hb, e⟩ := List.mem_filterMap.mp hp
 cases q : h.get? b with
 | none => rw [q] at e; cases e
 | some o =>
  rw [q] at e
  have e' : (b, o) = p := Option.some.inj e
  subst e'
  exact ⟨hb, q⟩
theorem Inv.pinned {pins : List (Addr × Obj)} {σ : St} {H : Hp} {s : Shared} {fp : List Addr} (I : Inv X pins σ H s) (hf : ∀ b ∈ fp, rJ X pins H b) (ho : ∀ b ∈ fp, ∃ o, s.heap.get? b = some o ∧ ∀ v, o.data ≠ .cell v) : Inv X (pins ++ cR fp s.heap) σ H s :=
 I.pins_of fun p hp => (List.mem_append.mp hp).elim (fun z => I.pin p (List.mem_append_right _ z)) fun z => by
  obtain ⟨hb, e⟩ := ia z
  obtain ⟨f0, f1, f2, _⟩ := hf p.1 hb
  obtain ⟨o, e', d⟩ := ho p.1 hb
  rw [e] at e'; cases e'
  exact ⟨e, f0, f1, f2, d⟩
theorem Inv.unpinned {pins pl : List (Addr × Obj)} {σ : St} {H : Hp} {s : Shared} (I : Inv X (pins ++ pl) σ H s) : Inv X pins σ H s := I.pins_of fun p hp => I.pin p (List.mem_append_right _ (List.mem_append_left _ hp))
theorem tX {iter : Expr} {body : List Stmt} {wi : TI} {g : TG} {tb : TS} {pos : Pos} (hp : PassesOwn (model X.prog X.w) X.A X.env X.xe) (hc : X.calm = true) (hi : PI X tg iter wi) (hg : PG X tg g) (hb : PSs X body tb)
 (hs : ∀ x, foldedSetIterable iter X.env x = pure x := by intro _; rfl) : PS X (.For tg iter body [] pos) (Eb wi g tb) := by
 intro pins s σ H D I h
 refine wpAny_For (thn (hi pins s σ H _ I h) fun v s1 h1 => thn h1 fun itv s2 h2 => ?_) hs
 obtain ⟨it, fp, tn, J, H2, e, I2, T, st2, f2, W, ⟨m0, w0⟩, turn⟩ := h2
 subst e
 have stat : ∀ {H' : Hp}, (∀ b ∈ fp, H' b = none) → ∀ b ∈ fp, rJ X pins H' b := fun hn b hb => ⟨hn b hb, (f2 b hb).2⟩
 refine codeAny_forLoop_any (fun n s' => ∃ i σ' H', Inv X pins σ' H' s' ∧ tn i s'.heap ∧ (∀ b ∈ fp, H' b = none) ∧ W i n σ' H') ?_ m0 ⟨0, σ, H2, I2, st2, fun b hb => (f2 b hb).1, w0⟩
 rintro n s3 ⟨i, σ3, H3, I3, st3, fr3, w3⟩
 rcases turn i n σ3 H3 w3 with ⟨stop, qn⟩ | ⟨go, N, hN, step⟩
 · refine wpAny_passesOwn hp (thn (T.done X rfl rfl rfl hc i pins s3 σ3 H3 X.xe I3 (stat fr3) st3 stop) fun r s4 ⟨hr, I4⟩ => ?_)
   subst hr
   exact wpAny_execs_nil ⟨σ3, H3, I4, qn⟩
 · refine wpAny_passesOwn hp (thn (T.item X rfl rfl rfl hc i pins s3 σ3 H3 X.xe I3 (stat fr3) st3 go) fun r s4 ⟨u, hr, h4⟩ => ?_)
   subst hr
   refine wpAny_passesOwn hp (thn h4 fun _ s5 ⟨x, H5, I5, r5, y5, st5, fr5⟩ => ?_)
   have I5' := I5.pinned (stat fr5) (T.obj _ _ st5)
   refine wpAny_passesOwn hp (thn (hg _ s5 σ3 H5 x u _ I5' r5 (step x H5 y5)) fun _ s6 ⟨σ6, H6, I6, q6⟩ => ?_)
   refine wpAny_passesOwn hp (thn (hb _ s6 σ6 H6 _ I6 q6) fun f s7 q7 => ?_)
   have again : ∀ {σ7 : St} {H7 : Hp}, Inv X (pins ++ cR fp s5.heap) σ7 H7 s7 → N σ7 H7 → ∃ m, m < n ∧ ∃ i σ' H', Inv X pins σ' H' s7 ∧ tn i s7.heap ∧ (∀ b ∈ fp, H' b = none) ∧ W i m σ' H' := fun {σ7 H7} I7 n7 => by
    obtain ⟨m', hm, w7⟩ := hN σ7 H7 n7
    refine ⟨m', hm, i + 1, σ7, H7, I7.unpinned, T.keep _ _ _ st5 fun b hb o e => (I7.pin (b, o) (List.mem_append_right _ (List.mem_append_right _ (ci hb e)))).1, fun b hb => ?_, w7⟩
    obtain ⟨o, e, d⟩ := T.obj _ _ st5 b hb
    exact (I7.pin (b, o) (List.mem_append_right _ (List.mem_append_right _ (ci hb e)))).2.1
   cases f with
   | next => obtain ⟨σ7, H7, I7, n7⟩ := q7; exact again I7 n7
   | cont => obtain ⟨σ7, H7, I7, n7⟩ := q7; exact again I7 n7
   | brk => obtain ⟨σ7, H7, I7, q7⟩ := q7; exact ⟨σ7, H7, I7.unpinned, q7⟩
   | ret v => obtain ⟨x7, σ7, H7, I7, r7, q7⟩ := q7; exact ⟨x7, σ7, H7, I7.unpinned, r7, q7⟩
end
abbrev R2 := V → V → Hp → VK → Prop
def OpR (X : Cx) (f : Value → Value → Sem Value) (r : R2) : Prop :=
 ∀ (pins : List (Addr × Obj)) (s : Shared) (σ : St) (H : Hp) (x y : V) (v u : Value) (Q : VK), Inv X pins σ H s → RelV x v → RelV y u → r x y H Q →
  wpAny (model X.prog X.w) X.A (f v u) (EP X pins σ Q) X.xe s
def UnR (X : Cx) (f : Value → Sem Value) (r : V → Hp → VK → Prop) : Prop :=
 ∀ (pins : List (Addr × Obj)) (s : Shared) (σ : St) (H : Hp) (x : V) (v : Value) (Q : VK), Inv X pins σ H s → RelV x v → r x H Q →
  wpAny (model X.prog X.w) X.A (f v) (EP X pins σ Q) X.xe s
def CallR (X : Cx) (f : Value) (r : List V → Hp → VK → Prop) : Prop :=
 ∀ (pins : List (Addr × Obj)) (s : Shared) (σ : St) (H : Hp) (xs : List V) (us : List Value) (Q : VK), Inv X pins σ H s → Vals xs us → r xs H Q →
  wpAny (model X.prog X.w) X.A (call f us) (EP X pins σ Q) X.xe s
def tOp (r : R2) (ta tb : TE) : TE := fun σ H Q => ta σ H fun x H1 => tb σ H1 fun y H2 => r x y H2 Q
def tUn (r : V → Hp → VK → Prop) (ta : TE) : TE := fun σ H Q => ta σ H fun x H1 => r x H1 Q
def rI (C : Int → Int → Prop) (g : Int → Int → V) : R2 := fun x y H Q => ∃ i j, x = .int i ∧ y = .int j ∧ C i j ∧ Q (g i j) H
def rI0 (g : Int → Int → V) : R2 := fun x y H Q => ∃ i j, x = .int i ∧ y = .int j ∧ Q (g i j) H
def rU (g : Int → V) : V → Hp → VK → Prop := fun x H Q => ∃ i, x = .int i ∧ Q (g i) H
section
variable {X : Cx} {a b c : Expr} {ta tb tc : TE} {pos : Pos}
theorem Bs (ha : PE X a ta) (hb : PE X b tb) {pins : List (Addr × Obj)} {s : Shared} {σ : St} {H : Hp} {R : V → V → Hp → Prop} (I : Inv X pins σ H s)
 (h : ta σ H fun x H1 => tb σ H1 fun y H2 => R x y H2) {Q : Value → Shared → Prop} {f : Value → Value → Sem Value}
 (hf : ∀ v u s2 x y H2, Inv X pins σ H2 s2 → RelV x v → RelV y u → R x y H2 → wpAny (model X.prog X.w) X.A (f v u) Q X.xe s2) :
 wpAny (model X.prog X.w) X.A (eval a X.env) (fun v s₁ => wpAny (model X.prog X.w) X.A (eval b X.env) (fun u s₂ => wpAny (model X.prog X.w) X.A (f v u) Q X.xe s₂) X.xe s₁) X.xe s := by
 refine thn (ha pins s σ H _ I h) fun v s1 ⟨x, H1, I1, r1, q1⟩ => ?_
 refine thn (hb pins s1 σ H1 _ I1 q1) fun u s2 ⟨y, H2, I2, r2, q2⟩ => ?_
 exact hf v u s2 x y H2 I2 r1 r2 q2
theorem Bt {op : Operator} {r : R2} (ho : OpR X (binaryOp op) r) (ha : PE X a ta) (hb : PE X b tb) : PE X (.BinOp a op b pos) (tOp r ta tb) := by
 intro pins s σ H Q I h
 exact wpAny_BinOp (Bs ha hb I h fun v u s2 x y H2 I2 rx ry q => ho pins s2 σ H2 x y v u Q I2 rx ry q)
theorem Bu {op : UnaryOp} {r : V → Hp → VK → Prop} (ho : UnR X (unaryOp op) r) (ha : PE X a ta) : PE X (.UnaryOp op a pos) (tUn r ta) := by
 intro pins s σ H Q I h
 exact UnaryOp_ (thn (ha pins s σ H _ I h) fun v s1 ⟨x, H1, I1, r1, q1⟩ => ho pins s1 σ H1 x v Q I1 r1 q1)
theorem opI {f : Value → Value → Sem Value} {C : Int → Int → Prop} {g : Int → Int → Int}
 (rule : ∀ (i j : Int) (t u : Tok) (s : Shared) (Q : Value → Shared → Prop) (E : Value → Shared → Prop), C i j → Q (.int (g i j) s.toks) { s with toks := s.toks + 1 } → wpAny (model X.prog X.w) X.A (f (.int i t) (.int j u)) Q E s) :
 OpR X f (rI C fun i j => .int (g i j)) := by
 intro pins s σ H x y v u Q I rx ry h
 obtain ⟨i, j, rfl, rfl, hc, q⟩ := h
 obtain ⟨t, rfl⟩ := rx
 obtain ⟨t', rfl⟩ := ry
 exact rule i j t t' s _ _ hc ⟨.int (g i j), H, I.tok _, ⟨_, rfl⟩, q⟩
theorem Dh {f : Value → Value → Sem Value} {g : Int → Int → Int}
 (rule : ∀ (i j : Int) (t u : Tok) (s : Shared) (Q : Value → Shared → Prop) (E : Value → Shared → Prop), Q (.int (g i j) s.toks) { s with toks := s.toks + 1 } → wpAny (model X.prog X.w) X.A (f (.int i t) (.int j u)) Q E s) :
 OpR X f (rI0 fun i j => .int (g i j)) := by
 intro pins s σ H x y v u Q I rx ry h
 obtain ⟨i, j, rfl, rfl, q⟩ := h
 obtain ⟨t, rfl⟩ := rx
 obtain ⟨t', rfl⟩ := ry
 exact rule i j t t' s _ _ ⟨.int (g i j), H, I.tok _, ⟨_, rfl⟩, q⟩
theorem Bv {f : Value → Value → Sem Value} {g : Int → Int → Bool}
 (rule : ∀ (i j : Int) (t u : Tok) (s : Shared) (Q : Value → Shared → Prop) (E : Value → Shared → Prop), Q (.bool (g i j)) s → wpAny (model X.prog X.w) X.A (f (.int i t) (.int j u)) Q E s) :
 OpR X f (rI0 fun i j => .bl (g i j)) := by
 intro pins s σ H x y v u Q I rx ry h
 obtain ⟨i, j, rfl, rfl, q⟩ := h
 obtain ⟨t, rfl⟩ := rx
 obtain ⟨t', rfl⟩ := ry
 exact rule i j t t' s _ _ ⟨.bl (g i j), H, I, rfl, q⟩
def Di (i j : Int) : Prop := 0 < j ∧ j < 1073741824
def CMul (i j : Int) : Prop := (-(2 ^ 64) < i ∧ i < 2 ^ 64) ∨ (-(2 ^ 64) < j ∧ j < 2 ^ 64)
theorem CMul.ok {i j : Int} (h : CMul i j) : IntMulOk i j := by
 rcases h with ⟨h1, h2⟩ | ⟨h1, h2⟩
 · exact .of_left (intBits_le_64 h1 h2)
 · exact .of_right (intBits_le_64 h1 h2)
theorem op_add : OpR X (binaryOp .Add) (rI0 fun i j => .int (i + j)) := Dh fun _ _ _ _ _ _ _ q => add_int q
theorem xX : OpR X (binaryOp .Sub) (rI0 fun i j => .int (i - j)) := Dh fun _ _ _ _ _ _ _ q => sub_int q
theorem tY : OpR X (binaryOp .Mult) (rI CMul fun i j => .int (i * j)) := opI fun _ _ _ _ _ _ _ hc q => mul_int q hc.ok
theorem uU : OpR X (binaryOp .FloorDiv) (rI Di fun i j => .int (i / j)) := opI fun i j _ _ _ _ _ hc q => by
 have h1 : (0 : Int) < j := hc.1
 have h2 : j < 1073741824 := hc.2
 exact floordiv_int (by omega) (by rw [Int.fdiv_eq_ediv_of_nonneg i (by omega)]; exact q) (.inl (PyProof.noPylong_small (by omega)))
theorem xY : OpR X (binaryOp .Mod) (rI (fun _ j => 0 < j) fun i j => .int (i % j)) := opI fun i j _ _ _ _ _ hc q => by
 have h1 : (0 : Int) < j := hc
 exact mod_int' (by omega) (by rw [Int.fmod_eq_emod_of_nonneg i (by omega)]; exact q)
theorem unI {f : Value → Sem Value} {g : Int → Int}
 (rule : ∀ (i : Int) (t : Tok) (s : Shared) (Q : Value → Shared → Prop) (E : Value → Shared → Prop), Q (.int (g i) s.toks) { s with toks := s.toks + 1 } → wpAny (model X.prog X.w) X.A (f (.int i t)) Q E s) :
 UnR X f (rU fun i => .int (g i)) := by
 intro pins s σ H x v Q I rx h
 obtain ⟨i, rfl, q⟩ := h
 obtain ⟨t, rfl⟩ := rx
 exact rule i t s _ _ ⟨.int (g i), H, I.tok _, ⟨_, rfl⟩, q⟩
theorem xZ : UnR X (unaryOp .USub) (rU fun i => .int (-i)) := unI fun _ _ _ _ _ q => neg_int q
end
def Bw : V → V → Bool
 | .non, .non => true | .non, .int _ => true | .int _, .non => true | .non, .bl _ => true | .bl _, .non => true | .non, .str _ => true | .str _, .non => true
 | .int _, .int _ => true | .bl _, .bl _ => true | .str _, .str _ => true | .byt _, .byt _ => true
 | .int _, .str _ => true | .str _, .int _ => true | .bl _, .str _ => true | .str _, .bl _ => true
 | _, _ => false
def rEq : R2 := fun x y H Q => Bw x y = true ∧ Q (.bl (decide (x = y))) H
def rNe : R2 := fun x y H Q => Bw x y = true ∧ Q (.bl (!decide (x = y))) H
theorem lx {i j : Int} : decide (V.int i = V.int j) = (i == j) := by
 rw [Bool.eq_iff_iff]
 simp
theorem oW {i j : Bool} : decide (V.bl i = V.bl j) = (i == j) := by
 rw [Bool.eq_iff_iff]
 simp
theorem ly {i j : Str} : decide (V.str i = V.str j) = (i == j) := by
 rw [Bool.eq_iff_iff]
 simp
theorem oX {i j : Array UInt8} : decide (V.byt i = V.byt j) = (i.toList == j.toList) := by
 rw [Bool.eq_iff_iff]
 cases i
 cases j
 simp
section
variable {X : Cx} {a b c : Expr} {ta tb tc : TE} {pos : Pos}
theorem aN {pins : List (Addr × Obj)} {σ : St} {H : Hp} {s : Shared} {Q : VK} {k k' : Bool} (I : Inv X pins σ H s) (q : Q (.bl k) H) (e : k = k') : EP X pins σ Q (.bool k') s := by
 subst e
 exact ⟨.bl k, H, I, rfl, q⟩
theorem op_eq : OpR X (compareOp .Eq) rEq := by
 intro pins s σ H x y v u Q I rx ry h
 obtain ⟨hs, q⟩ := h
 cases x with
 | non =>
  cases rx
  cases y with
  | non => cases ry; exact PySem.EqNone.eq_none_none (aN I q (by simp))
  | bl j => cases ry; exact PySem.EqNone.eq_none_bool (aN I q (by simp))
  | int j => obtain ⟨t', rfl⟩ := ry; exact PySem.EqNone.eq_none_int (aN I q (by simp))
  | str j => obtain ⟨t', rfl⟩ := ry; exact PySem.EqNone.eq_none_str (aN I q (by simp))
  | _ => exact absurd (show false = true from hs) Bool.false_ne_true
 | bl i =>
  cases rx
  cases y with
  | non => cases ry; exact PySem.EqNone.eq_bool_none (aN I q (by simp))
  | bl j => cases ry; exact eq_bool (aN I q oW)
  | str j => obtain ⟨t', rfl⟩ := ry; exact PySem.EqMixed.eq_bool_str (aN I q (by simp))
  | _ => exact absurd (show false = true from hs) Bool.false_ne_true
 | int i =>
  obtain ⟨t, rfl⟩ := rx
  cases y with
  | non => cases ry; exact PySem.EqNone.eq_int_none (aN I q (by simp))
  | int j => obtain ⟨t', rfl⟩ := ry; exact eq_int (aN I q lx)
  | str j => obtain ⟨t', rfl⟩ := ry; exact PySem.EqMixed.eq_int_str (aN I q (by simp))
  | _ => exact absurd (show false = true from hs) Bool.false_ne_true
 | str i =>
  obtain ⟨t, rfl⟩ := rx
  cases y with
  | non => cases ry; exact PySem.EqNone.eq_str_none (aN I q (by simp))
  | bl j => cases ry; exact PySem.EqMixed.eq_str_bool (aN I q (by simp))
  | int j => obtain ⟨t', rfl⟩ := ry; exact PySem.EqMixed.eq_str_int (aN I q (by simp))
  | str j => obtain ⟨t', rfl⟩ := ry; exact eq_str (aN I q ly)
  | _ => exact absurd (show false = true from hs) Bool.false_ne_true
 | byt i =>
  obtain ⟨t, rfl⟩ := rx
  cases y with
  | byt j => obtain ⟨t', rfl⟩ := ry; exact PySem.W.eq_bytes (aN I q oX)
  | _ => exact absurd (show false = true from hs) Bool.false_ne_true
 | _ => cases y <;> exact absurd (show false = true from hs) Bool.false_ne_true
theorem op_ne : OpR X (compareOp .NotEq) rNe := by
 intro pins s σ H x y v u Q I rx ry h
 obtain ⟨hs, q⟩ := h
 cases x with
 | non =>
  cases rx
  cases y with
  | non => cases ry; exact PySem.EqNone.ne_none_none (aN I q (by simp))
  | bl j => cases ry; exact PySem.EqNone.ne_none_bool (aN I q (by simp))
  | int j => obtain ⟨t', rfl⟩ := ry; exact PySem.EqNone.ne_none_int (aN I q (by simp))
  | str j => obtain ⟨t', rfl⟩ := ry; exact PySem.EqNone.ne_none_str (aN I q (by simp))
  | _ => exact absurd (show false = true from hs) Bool.false_ne_true
 | bl i =>
  cases rx
  cases y with
  | non => cases ry; exact PySem.EqNone.ne_bool_none (aN I q (by simp))
  | bl j => cases ry; exact ne_bool (aN I q (congrArg not oW))
  | str j => obtain ⟨t', rfl⟩ := ry; exact PySem.EqMixed.ne_bool_str (aN I q (by simp))
  | _ => exact absurd (show false = true from hs) Bool.false_ne_true
 | int i =>
  obtain ⟨t, rfl⟩ := rx
  cases y with
  | non => cases ry; exact PySem.EqNone.ne_int_none (aN I q (by simp))
  | int j => obtain ⟨t', rfl⟩ := ry; exact ne_int (aN I q (congrArg not lx))
  | str j => obtain ⟨t', rfl⟩ := ry; exact PySem.EqMixed.ne_int_str (aN I q (by simp))
  | _ => exact absurd (show false = true from hs) Bool.false_ne_true
 | str i =>
  obtain ⟨t, rfl⟩ := rx
  cases y with
  | non => cases ry; exact PySem.EqNone.ne_str_none (aN I q (by simp))
  | bl j => cases ry; exact PySem.EqMixed.ne_str_bool (aN I q (by simp))
  | int j => obtain ⟨t', rfl⟩ := ry; exact PySem.EqMixed.ne_str_int (aN I q (by simp))
  | str j => obtain ⟨t', rfl⟩ := ry; exact ne_str (aN I q (congrArg not ly))
  | _ => exact absurd (show false = true from hs) Bool.false_ne_true
 | byt i =>
  obtain ⟨t, rfl⟩ := rx
  cases y with
  | byt j => obtain ⟨t', rfl⟩ := ry; exact PySem.W.ne_bytes (aN I q (congrArg not oX))
  | _ => exact absurd (show false = true from hs) Bool.false_ne_true
 | _ => cases y <;> exact absurd (show false = true from hs) Bool.false_ne_true
theorem op_lt : OpR X (compareOp .Lt) (rI0 fun i j => .bl (decide (i < j))) := Bv fun _ _ _ _ _ _ _ q => lt_int q
theorem op_le : OpR X (compareOp .LtE) (rI0 fun i j => .bl (decide (i ≤ j))) := Bv fun _ _ _ _ _ _ _ q => le_int q
theorem Bx : OpR X (compareOp .Gt) (rI0 fun i j => .bl (decide (j < i))) := Bv fun _ _ _ _ _ _ _ q => gt_int q
theorem oY : OpR X (compareOp .Lt) (fun x y H Q => ∃ i j, x = .str i ∧ y = .str j ∧ Q (.bl (decide (i.cps.toList < j.cps.toList))) H) := by
 intro pins s σ H x y v u Q I rx ry h
 obtain ⟨i, j, rfl, rfl, q⟩ := h
 obtain ⟨t, rfl⟩ := rx
 obtain ⟨t', rfl⟩ := ry
 exact lt_str (aN I q rfl)
theorem op_in_str : OpR X (compareOp .In) (fun x y H Q => ∃ i j, x = .str i ∧ y = .str j ∧ Q (.bl (!(Builtin.Str.occurrences j i 0 j.length 1).isEmpty)) H) := by
 intro pins s σ H x y v u Q I rx ry h
 obtain ⟨i, j, rfl, rfl, q⟩ := h
 obtain ⟨t, rfl⟩ := rx
 obtain ⟨t', rfl⟩ := ry
 exact in_str (aN I q rfl)
theorem tZ : OpR X (compareOp .Is) (fun x y H Q => y = .non ∧ Q (.bl (decide (x = .non))) H) := by
 intro pins s σ H x y v u Q I rx ry h
 obtain ⟨rfl, q⟩ := h
 cases ry
 refine is_none_gen (aN I q ?_)
 cases x <;> first
  | (cases rx; rfl)
  | (obtain ⟨t, rfl⟩ := rx; rfl)
theorem oZ : OpR X (compareOp .IsNot) (fun x y H Q => y = .non ∧ Q (.bl (!decide (x = .non))) H) := by
 intro pins s σ H x y v u Q I rx ry h
 obtain ⟨rfl, q⟩ := h
 cases ry
 refine isnot_none_gen (aN I q ?_)
 cases x <;> first
  | (cases rx; rfl)
  | (obtain ⟨t, rfl⟩ := rx; rfl)
theorem OpR.or {f : Value → Value → Sem Value} {r r' : R2} (h : OpR X f r) (h' : OpR X f r') : OpR X f (fun x y H Q => r x y H Q ∨ r' x y H Q) := by
 intro pins s σ H x y v u Q I rx ry q
 rcases q with q | q
 · exact h pins s σ H x y v u Q I rx ry q
 · exact h' pins s σ H x y v u Q I rx ry q
theorem Dj (b : Expr) {op : CmpOp} (h : op ≠ .In := by decide) (h2 : op ≠ .NotIn := by decide) : behindInMarks op b = false := by
 have e1 : (op == CmpOp.In) = false := by cases op <;> first | rfl | exact absurd rfl h
 have e2 : (op == CmpOp.NotIn) = false := by cases op <;> first | rfl | exact absurd rfl h2
 cases b <;> simp [behindInMarks, e1, e2]
theorem uV {op : CmpOp} {r : R2} (ho : OpR X (compareOp op) r) (ha : PE X a ta) (hb : PE X b tb) (hm : behindInMarks op b = false) : PE X (.Compare a [op] [b] pos) (tOp r ta tb) := by
 intro pins s σ H Q I h
 exact wpAny_Compare1 (Bs ha hb I h fun v u s2 x y H2 I2 rx ry q => ho pins s2 σ H2 x y v u Q I2 rx ry q) hm
def x3 (t : TE) : TT := fun σ H Q => t σ H fun x H' => ∃ k, x = .bl k ∧ Q k H'
theorem uW {op : CmpOp} {r : R2} (ho : OpR X (compareOp op) r) (ha : PE X a ta) (hb : PE X b tb) (hm : behindInMarks op b = false) : PT X (.Compare a [op] [b] pos) (x3 (tOp r ta tb)) := by
 intro pins s σ H Q I h
 refine wpAny_isTrue_Compare1 (thn (ha pins s σ H _ I h) fun v s1 ⟨x, H1, I1, r1, q1⟩ => thn (hb pins s1 σ H1 _ I1 q1) fun u s2 ⟨y, H2, I2, r2, q2⟩ =>
  thn (ho pins s2 σ H2 x y v u _ I2 r1 r2 q2) fun c s3 ⟨z, H3, I3, r3, k, e, q3⟩ => ?_) hm
 subst e
 cases r3
 exact wpAny_truthy_bool ⟨H3, I3, q3⟩
def o6 (r r' : R2) (ta tb tc : TE) : TE := fun σ H Q => ta σ H fun x H1 => tb σ H1 fun y H2 => r x y H2 fun z H3 => ∃ k, z = .bl k ∧
 (if k = true then tc σ H3 fun w' H4 => r' y w' H4 Q else Q (.bl false) H3)
theorem rR {op op' : CmpOp} {r r' : R2} (ho : OpR X (compareOp op) r) (ho' : OpR X (compareOp op') r') (ha : PE X a ta) (hb : PE X b tb) (hc : PE X c tc)
 (hm : lastMarks [op, op'] [b, c] = false := by with_unfolding_all rfl) : PT X (.Compare a [op, op'] [b, c] pos) (x3 (o6 r r' ta tb tc)) := by
 intro pins s σ H Q I h
 refine isTrue_chain (thn (ha pins s σ H _ I h) fun v s1 ⟨x, H1, I1, r1, q1⟩ => test_link (thn (hb pins s1 σ H1 _ I1 q1) fun u s2 ⟨y, H2, I2, r2, q2⟩ =>
  thn (ho pins s2 σ H2 x y v u _ I2 r1 r2 q2) fun d s3 ⟨z, H3, I3, r3, k, e, q3⟩ => ?_)) hm
 subst e
 cases r3
 refine wpAny_truthy_bool ?_
 cases k with
 | false =>
  obtain ⟨k', e', q'⟩ := q3
  cases e'
  exact ite_ff ⟨H3, I3, q'⟩
 | true =>
  refine ite_tt (test_last (thn (hc pins s3 σ H3 _ I3 q3) fun w' s4 ⟨z', H4, I4, r4, q4⟩ => thn (ho' pins s4 σ H4 y z' u w' _ I4 r2 r4 q4) fun d' s5 ⟨z2, H5, I5, r5, k2, e2, q5⟩ => ?_))
  subst e2
  cases r5
  exact wpAny_truthy_bool ⟨H5, I5, q5⟩
theorem mF : (sizeLine : Nat) < 2 ^ 63 := by rw [sizeLine_eq]; decide
theorem op_add_str : OpR X (binaryOp .Add) (fun x y H Q => ∃ i j, x = .str i ∧ y = .str j ∧ i.length + j.length ≤ sizeLine ∧ Q (.str (i ++ j)) H) := by
 intro pins s σ H x y v u Q I rx ry h
 obtain ⟨i, j, rfl, rfl, hz, q⟩ := h
 obtain ⟨t, rfl⟩ := rx
 obtain ⟨t', rfl⟩ := ry
 exact add_str (fun t' tk => ⟨.str (i ++ j), H, I.tok _, ⟨_, rfl⟩, q⟩) hz
theorem dQ {x : V} {us : List Value} (r : Vals [x] us) : ∃ u, us = [u] ∧ RelV x u := by
 cases r with
 | cons r1 r2 => cases r2; exact ⟨_, rfl, r1⟩
theorem x4 {x y : V} {us : List Value} (r : Vals [x, y] us) : ∃ u w', us = [u, w'] ∧ RelV x u ∧ RelV y w' := by
 cases r with
 | cons r1 r2 =>
  cases r2 with
  | cons r3 r4 => cases r4; exact ⟨_, _, rfl, r1, r3⟩
def Ec (K : PySem.W.Frag) (x : V) (H : Hp) (n : Nat) : Prop :=
 match x with
 | .str y => y.length ≤ sizeLine ∧ n = y.length
 | .byt y => y.size ≤ sizeLine ∧ n = y.size
 | .ref p => (∃ xs, SqL K H p xs ∧ n = xs.length) ∨ ∃ xs, SqT K H p xs ∧ n = xs.length
 | _ => False
theorem rS : CallR X (.builtin "len") (fun xs H Q => ∃ x n, xs = [x] ∧ Ec X.K x H n ∧ Q (.int n) H) := by
 intro pins s σ H xs us Q I r h
 obtain ⟨x, n, rfl, e, q⟩ := h
 obtain ⟨u, rfl, rx⟩ := dQ r
 have hl := mF
 have hs : sizeLine = 16777216 := sizeLine_eq
 cases x with
 | str y =>
  obtain ⟨t, rfl⟩ := rx
  obtain ⟨hy, e'⟩ : y.length ≤ sizeLine ∧ n = y.length := e
  subst e'
  exact len_str (by omega) ⟨.int _, H, I.tok _, ⟨_, rfl⟩, q⟩
 | byt y =>
  obtain ⟨t, rfl⟩ := rx
  obtain ⟨hy, e'⟩ : y.size ≤ sizeLine ∧ n = y.size := e
  subst e'
  exact PySem.W.len_bytes (by omega) ⟨.int _, H, I.tok _, ⟨_, rfl⟩, q⟩
 | ref p =>
  cases rx
  have e' : (∃ xs, SqL X.K H p xs ∧ n = xs.length) ∨ ∃ xs, SqT X.K H p xs ∧ n = xs.length := e
  rcases e' with ⟨xs, hx, e'⟩ | ⟨xs, hx, e'⟩
  · subst e'
    obtain ⟨its, r', pl, hz⟩ := I.list hx
    have hlen := r'.length
    exact Calls.call_len_list pl.isList (by simp only [List.size_toArray]; omega) ⟨.int xs.length, H, I.tok _, ⟨_, by simp only [List.size_toArray]; rw [hlen]⟩, q⟩
  · subst e'
    obtain ⟨its, r', pl, hz⟩ := I.tuple hx
    have hlen := r'.length
    exact len_tuple pl (by simp only [List.size_toArray]; omega) ⟨.int xs.length, H, I.tok _, ⟨_, by simp only [List.size_toArray]; rw [hlen]⟩, q⟩
 | _ => exact (show False from e).elim
end
structure ObjM (h : Heap) (x dx C : Addr) (mA : Str → Option Value) : Prop where
 obj : h.get? x = some (PySem.W.instObj C dx)
 ns : h.Ns1 dx mA
 ne : dx ≠ x
theorem o7 {h : Heap} {dx : Addr} {mA : Str → Option Value} (n : h.Ns1 dx mA) : ∃ od, h.get? dx = some od ∧ ∀ name, PySem.W.lookIn name od = some (mA name) := by
 obtain ⟨o, es, ep, ho, hd, hk, _, hm⟩ := n
 refine ⟨o, ho, fun name => ?_⟩
 have e := hm name
 unfold nsFind findBy at e
 rw [← Array.find?_toList] at e
 unfold PySem.W.lookIn
 rw [hd]
 dsimp only
 split
 · rename_i y q
   rw [q] at e
   exact congrArg some e
 · rename_i q
   rw [q] at e
   have a : es.toList.any (·.refKey) = false := by
    rw [List.any_eq_false]
    intro y hy
    obtain ⟨z, t, hkey⟩ := hk y (Array.mem_toList_iff.mp hy)
    simp [DictEntry.refKey, hkey]
   have a' : ¬ es.toList.any (·.refKey) = true := by rw [a]; exact Bool.false_ne_true
   rw [if_neg a']
   exact congrArg some e
theorem ObjM.look {h : Heap} {x dx C : Addr} {mA : Str → Option Value} (I : ObjM h x dx C mA) : ∃ od, PySem.W.InstAt h x (PySem.W.instObj C dx) C (some od) ∧ ∀ name, PySem.W.lookIn name od = some (mA name) :=
 let ⟨od, ho, hl⟩ := o7 I.ns
 ⟨od, ⟨I.obj, rfl, rfl, ho⟩, hl⟩
section
variable {prog : Program} {w : World} {A : Around} {E : Value → Shared → Prop} {s : Shared} {K : PySem.W.Frag} {x dx C f : Addr} {mA : Str → Option Value} {name : Str} {v : Value}
end
section
variable {P : Program} {w : World} {H H' : Hp} {h h' : Heap} {a C dx : Addr} {fs fs' : List (Str × V)}
theorem uX (hok : HOk P w H h) (e : H a = some (.ins C dx fs)) : ∃ mA, ObjM h a dx C mA ∧ (∀ f, Bh (fs.lookup f) (mA f)) ∧ PySem.Within mA (fs.map (·.1)) ∧ fs.length ≤ 1000 ∧ H dx = some (.own a) := by
 obtain ⟨d, z, ne, ob, mA, n, r, q⟩ := (show ObjOk P w H h a (.ins C dx fs) from hok a _ e)
 exact ⟨mA, ⟨ob, n, ne⟩, r, q, z, d⟩
end
structure Cls (K : PySem.W.Frag) (C : Addr) : Prop where
 pg : PySem.W.plainGet K C Str.empty = true
 hd : PySem.W.hasDictIn K C = true
 po : PySem.W.plainOver K C = true
 sa : PySem.W.findIn K (.ref C) "__setattr__" = some (some (.builtin "object.__setattr__"))
theorem Cls.get {K : PySem.W.Frag} {C : Addr} (c : Cls K C) (f : Str) : PySem.W.plainGet K C f = true := c.pg
structure Con (K : PySem.W.Frag) (C : Addr) (f : Str) (v : V) (u : Value) : Prop where
 at_ : PySem.W.findIn K (.ref C) f = some (some u)
 rel : RelV v u
 get : PySem.W.specialIn K u "__get__" = some none
 cp : PySem.W.copiedNames.contains f = false
structure EJ (K : PySem.W.Frag) (C : Addr) (m : Str) (f : Addr) : Prop where
 at_ : PySem.W.findIn K (.ref C) m = some (some (.ref f))
 fn : PySem.W.isFn K (.ref f) = true
 kp : PySem.W.keepIn K (.ref f) = true
section
variable {X : Cx} {pins : List (Addr × Obj)} {σ : St} {H : Hp} {s : Shared} {a C dx : Addr} {fs : List (Str × V)} {f : Str} {v : V} {A : Around} {E : Value → Shared → Prop}
theorem Inv.made (I : Inv X pins σ H s) : Inv X pins σ (upd (upd H s.heap.objs.size (.own (s.heap.objs.size + 1))) (s.heap.objs.size + 1) (.ins C s.heap.objs.size []))
 { s with heap := (s.heap.push PySem.W.emptyDict).push (PySem.W.instObj C s.heap.objs.size) } := by
 have e1 : (s.heap.push PySem.W.emptyDict).get? s.heap.objs.size = some PySem.W.emptyDict := Heap.get?_push_size s.heap rfl
 have e2 : ((s.heap.push PySem.W.emptyDict).push (PySem.W.instObj C s.heap.objs.size)).get? (s.heap.objs.size + 1) = some (PySem.W.instObj C s.heap.objs.size) := by
  have := Heap.get?_push_size (s.heap.push PySem.W.emptyDict) (o := PySem.W.instObj C s.heap.objs.size) rfl
  rwa [Heap.size_push] at this
 have e3 : (s.heap.push PySem.W.emptyDict).Ns s.heap.objs.size (fun _ => none) := ⟨PySem.W.emptyDict, #[], _, e1, rfl, (fun e he => absurd he (by simp)), fun _ => rfl⟩
 have I1 := I.laid (a := s.heap.objs.size) (o := .own (s.heap.objs.size + 1)) (h' := s.heap.push PySem.W.emptyDict) (t' := s.toks) (fun b u q => Heap.get?_push_of_some _ q) (Nat.le_refl _) ⟨_, e1⟩
 refine I1.laid (a := s.heap.objs.size + 1) (o := .ins C s.heap.objs.size []) (t' := s.toks) (fun b u q => Heap.get?_push_of_some _ q) (Nat.le_of_eq (Heap.size_push _ _)) ?_
 have ne : s.heap.objs.size ≠ s.heap.objs.size + 1 := Nat.ne_of_lt (Nat.lt_succ_self _)
 refine ⟨by rw [az ne, av], Nat.zero_le _, ne, e2, fun _ => none, (Heap.Ns1.of_empty e3).at fun o q => Heap.get?_push_of_some _ q, fun _ => True.intro, fun y hy => absurd rfl hy⟩
end
section
variable {X : Cx} {o e value : Expr} {f : Str} {pos pos' tpos : Pos} {ta tv : TE}
end
section
variable {X : Cx} {pins : List (Addr × Obj)} {σ : St} {H : Hp} {s : Shared} {A : Around} {E : Value → Shared → Prop} {Q : Value → Shared → Prop} {c : Value} {b : Bool}
inductive mG (K : PySem.W.Frag) (H : Hp) : V → Value → Prop where
 | non : mG K H .non (.type "NoneType")
 | bl (x : Bool) : mG K H (.bl x) (.type "bool")
 | int (i : Int) : mG K H (.int i) (.type "int")
 | str (x : Str) : mG K H (.str x) (.type "str")
 | flt (x : UInt64) : mG K H (.flt x) (.type "float")
 | lst {a : Addr} {xs : List V} (e : H a = some (.lst xs)) : mG K H (.ref a) (.type "list")
 | frz {a : Addr} {o : Obj} {xs : List V} (e : H a = some (.frz o (.lst xs))) : mG K H (.ref a) (.type "list")
 | tup {a : Addr} {xs : List V} (e : H a = some (.tup xs)) : mG K H (.ref a) (.type "tuple")
 | dK {a : Addr} {kvs : List (Key × V)} (e : H a = some (.dK kvs)) : mG K H (.ref a) (.type "dict")
 | dT {a : Addr} {kvs : List (List Key × V)} (e : H a = some (.dT kvs)) : mG K H (.ref a) (.type "dict")
 | ins {a C dx : Addr} {fs : List (Str × V)} (e : H a = some (.ins C dx fs)) (cl : Cls K C) (ha : PySem.W.findIn K (.ref C) "__class__" = some (some (.builtin "object.__class__")))
  (hn : PySem.W.specialIn K (.builtin "object.__class__") "__get__" = some (some (.builtin "getset_descriptor.__get__"))) (htk : PySem.W.takesIn K (.builtin "object.__class__") = some true)
  (hm : PySem.W.mroIn K C (.type "object") = some true) : mG K H (.ref a) (.ref C)
theorem o8 {x : V} {u t : Value} (I : Inv X pins σ H s) (rx : RelV x u) (ty : mG X.K H x t) (e : PySem.W.kitOne X.K t c = some b) (h : ∀ tk, Q (.bool b) { s with toks := tk }) :
 wpAny (model X.prog X.w) A (call (.builtin "isinstance") [u, c]) Q E s := by
 cases ty with
 | non => cases (show u = Value.none from rx); exact PySem.W.kia_one PySem.W.kitx_none I.kIn True.intro e (fun z => nomatch z) h
 | bl y => cases (show u = Value.bool y from rx); exact PySem.W.kia_one PySem.W.kitx_bool I.kIn True.intro e (fun z => nomatch z) h
 | int i => obtain ⟨t, q⟩ := (show ∃ t, u = Value.int i t from rx); cases q; exact PySem.W.kia_one PySem.W.kitx_int I.kIn True.intro e (fun z => nomatch z) h
 | str y => obtain ⟨t, q⟩ := (show ∃ t, u = Value.str y t from rx); cases q; exact PySem.W.kia_one PySem.W.kitx_str I.kIn True.intro e (fun z => nomatch z) h
 | flt y => obtain ⟨t, q⟩ := (show ∃ t, u = Value.float y t from rx); cases q; exact PySem.W.kia_one PySem.W.kitx_float I.kIn True.intro e (fun z => nomatch z) h
 | @lst a xs ea =>
  cases (show u = Value.ref a from rx)
  obtain ⟨_, _, n, _, h1⟩ := (show ObjOk X.prog X.w H s.heap a (.lst xs) from I.hok a _ ea)
  exact PySem.W.kia_one PySem.W.kitx_list I.kIn ⟨_, h1, rfl⟩ e (fun z => nomatch z) h
 | @frz a ob xs ea =>
  cases (show u = Value.ref a from rx)
  obtain ⟨_, _, _, n, _, h1⟩ := (show ObjOk X.prog X.w H s.heap a (.frz ob (.lst xs)) from I.hok a _ ea)
  exact PySem.W.kia_one PySem.W.kitx_list I.kIn ⟨_, h1, rfl⟩ e (fun z => nomatch z) h
 | @tup a xs ea =>
  cases (show u = Value.ref a from rx)
  obtain ⟨_, _, _, p⟩ := (show ObjOk X.prog X.w H s.heap a (.tup xs) from I.hok a _ ea)
  obtain ⟨o, h1, h2, _⟩ := p
  exact PySem.W.kia_one PySem.W.kitx_tuple I.kIn ⟨o, h1, h2⟩ e (fun z => nomatch z) h
 | @dK a kvs ea =>
  cases (show u = Value.ref a from rx)
  obtain ⟨_, _, vs, _, p⟩ := (show ObjOk X.prog X.w H s.heap a (.dK kvs) from I.hok a _ ea)
  obtain ⟨o, es, ep, h1, h2, _⟩ := p
  exact PySem.W.kia_one PySem.W.kitx_dict I.kIn ⟨o, h1, h2.1⟩ e (fun z => nomatch z) h
 | @dT a kvs ea =>
  cases (show u = Value.ref a from rx)
  obtain ⟨_, _, xs, _, o, es, ep, h1, h2, _⟩ := (show ObjOk X.prog X.w H s.heap a (.dT kvs) from I.hok a _ ea)
  exact PySem.W.kia_one PySem.W.kitx_dict I.kIn ⟨o, h1, h2.1⟩ e (fun z => nomatch z) h
 | @ins a C dx fs ea cl ha hn htk hm =>
  cases (show u = Value.ref a from rx)
  obtain ⟨mA, O, _⟩ := uX I.hok ea
  obtain ⟨od, J, _⟩ := O.look
  exact PySem.W.kia_one (PySem.W.kitx_own (cl.get _) cl.hd ha hn htk hm) I.kIn J e (fun z => nomatch z) h
end
structure Room (k : Nat) (A : Around) : Prop where
 hd : A.handled = none
 dp : A.depth + 3 * k + 5 < recursionLimit
 un : A.units + 16 * k + 200 < cLine
theorem Room.mono {j k : Nat} {A : Around} (r : Room k A) (h : j ≤ k) : Room j A := ⟨r.hd, by have := r.dp; omega, by have := r.un; omega⟩
theorem Room.deeper {k : Nat} {A : Around} (r : Room (k + 1) A) (env : Env) : Room k (A.deeper env) :=
 ⟨r.hd, by have := r.dp; show A.depth + 1 + 3 * k + 5 < _; omega, by have := r.un; show A.units + 3 + 16 * k + 200 < _; omega⟩
theorem Room.in1 {k : Nat} {A : Around} (r : Room (k + 1) A) : Room k A.in1 :=
 ⟨r.hd, by have := r.dp; show A.depth + 3 * k + 5 < _; omega, by have := r.un; show A.units + 1 + 16 * k + 200 < _; omega⟩
theorem Room.depth {k : Nat} {A : Around} (r : Room k A) : A.depth < recursionLimit := by have := r.dp; omega
theorem Room.units {k : Nat} {A : Around} (r : Room k A) : A.units + 64 < cLine := by have := r.un; omega
theorem Room.units0 {k : Nat} {A : Around} (r : Room k A) : A.units < cLine := by have := r.un; omega
def Ed : TA := fun _ H Q => Q [] H
def By (ta : TE) (tr : TA) : TA := fun σ H Q => ta σ H fun x H1 => tr σ H1 fun xs H2 => Q (x :: xs) H2
section
variable {X : Cx} {e : Expr} {es : List Expr} {te : TE} {t : TA} {pos : Pos}
theorem mH : PA X [] Ed := fun _ _ _ _ H Q I h => Calls.spliced_nil ⟨[], H, I, .nil, h⟩
theorem fg (ha : PE X e te) (hr : PA X es t) (hs : starEach (e :: es) X.env = (false, eval e X.env) :: starEach es X.env := by rfl) : PA X (e :: es) (By te t) := by
 intro pos pins s σ H Q I h
 rw [hs]
 show wpAny _ _ (spliced ((false, eval e X.env) :: backTo pos (starEach es X.env))) _ _ s
 refine Calls.spliced_cons (thn (ha pins s σ H _ I h) fun u s1 ⟨x, H1, I1, r1, q1⟩ => ?_)
 exact thn (hr pos pins s1 σ H1 _ I1 q1) fun us s2 ⟨xs, H2, I2, r2, q2⟩ => ⟨x :: xs, H2, I2, .cons r1 r2, q2⟩
def Ee (t : TA) : TE := fun σ H Q => t σ H fun xs H1 => xs.length ≤ sizeLine ∧ ∀ p, H1 p = none → Q (.ref p) (upd H1 p (.tup xs))
def Ef (t : TA) : TE := fun σ H Q => t σ H fun xs H1 => xs.length ≤ sizeLine ∧ ∀ p, H1 p = none → Q (.ref p) (upd H1 p (.lst xs))
theorem x5 {x1} (h : PA X es t) : PE X (.Tuple es x1 pos) (Ee t) := by
 intro pins s σ H Q I hq
 refine wpAny_Tuple_spliced (thn (h pos pins s σ H _ I hq) fun us s1 ⟨xs, H1, I1, r, z, q⟩ => ⟨by rw [← r.length]; exact z, ?_⟩)
 have hf : H1 s1.heap.objs.size = none := I1.hok.fresh (Nat.le_refl _)
 refine ⟨.ref s1.heap.objs.size, upd H1 s1.heap.objs.size (.tup xs), I1.laid (t' := s1.toks) (fun b u e => Heap.get?_push_of_some _ e) (Nat.le_refl _) ?_, rfl, q _ hf⟩
 exact ⟨z, us, r, ⟨_, Heap.get?_push_size _ rfl, rfl, _, rfl⟩⟩
theorem ua (h : PA X es t) : PE X (.List es pos) (Ef t) := by
 intro pins s σ H Q I hq
 refine wpAny_List_spliced (thn (h pos pins s σ H _ I hq) fun us s1 ⟨xs, H1, I1, r, z, q⟩ => ⟨by rw [← r.length]; exact z, ?_⟩)
 have hf : H1 s1.heap.objs.size = none := I1.hok.fresh (Nat.le_refl _)
 refine ⟨.ref s1.heap.objs.size, upd H1 s1.heap.objs.size (.lst xs), I1.laid (t' := s1.toks) (fun b u e => Heap.get?_push_of_some _ e) (Nat.le_refl _) ?_, rfl, q _ hf⟩
 exact ⟨z, us, 0, r, Heap.get?_push_size _ rfl⟩
end
abbrev Sp := List V → Hp → VK → XK → Prop
abbrev CXT := List Env → Hp → Shared → XK → Value → Shared → Prop
structure Env0 (P : Program) (w : World) (K : PySem.W.Frag) (mg : Str → Option Value) (base : Heap) (A : Around) (outer : List Env) (s : Shared) (H : Hp) : Prop where
 frames : A.frames = some outer
 mod : Mod K mg base
 bs : ∀ b o, base.get? b = some o → s.heap.get? b = some o ∧ H b = none
 bsz : base.objs.size ≤ s.heap.objs.size
 funs : s.heap.FunFrames base outer
 frf : ∀ b ∈ frs outer, H b = none
 hok : HOk P w H s.heap
 bare : AllBare s.gens
def CE (outer : List Env) (P : Program) (w : World) (H : Hp) (s : Shared) (Q : VK) (u : Value) (s' : Shared) : Prop :=
 ∃ v H', s'.os = s.os ∧ AllBare s'.gens ∧ Un (frs outer) [] H H' s.heap s'.heap ∧ HOk P w H' s'.heap ∧ RelV v u ∧ Q v H'
def CR (CX : CXT) (outer : List Env) (P : Program) (w : World) (H : Hp) (s : Shared) (Q : VK) (E : XK) (r : Result) (s' : Shared) : Prop :=
 match r with
 | .ok (.ret u) => CE outer P w H s Q u s'
 | .ok _ => False
 | .error e => CX outer H s E e s'
structure FnOk (P : Program) (w : World) (K : PySem.W.Frag) (mg : Str → Option Value) (base : Heap) (CX : CXT) (k : Nat) (f : Addr) (fd : FuncData) (ps : List Str) (sp : Sp) : Prop where
 len : ∀ vs H Q E, sp vs H Q E → vs.length = ps.length
 run : ∀ (A : Around) (outer : List Env) (s : Shared) (H : Hp) (args : Args) (us : List Value) (vs : List V) (Q : VK) (E : XK), Room k A → Env0 P w K mg base A outer s H → BindsTo s fd args (ps.zip us) → Vals vs us → sp vs H Q E →
  codeAny (model P w) A (.call (.ref f) args) (CR CX outer P w H s Q E) s
theorem FnOk.mono {P : Program} {w : World} {K : PySem.W.Frag} {mg : Str → Option Value} {base : Heap} {CX : CXT} {j k : Nat} {f : Addr} {fd : FuncData} {ps : List Str} {sp : Sp} (F : FnOk P w K mg base CX j f fd ps sp) (h : j ≤ k) :
 FnOk P w K mg base CX k f fd ps sp := ⟨F.len, fun A outer s H args us vs Q E hr => F.run A outer s H args us vs Q E (hr.mono h)⟩
theorem FnOk.imp {P : Program} {w : World} {K : PySem.W.Frag} {mg : Str → Option Value} {base : Heap} {CX : CXT} {k : Nat} {f : Addr} {fd : FuncData} {ps : List Str} {sp sp' : Sp} (F : FnOk P w K mg base CX k f fd ps sp)
 (h : ∀ vs H Q E, sp' vs H Q E → sp vs H Q E) : FnOk P w K mg base CX k f fd ps sp' :=
 ⟨fun vs H Q E q => F.len vs H Q E (h _ _ _ _ q), fun A outer s H args us vs Q E hr he hb hv hs => F.run A outer s H args us vs Q E hr he hb hv (h _ _ _ _ hs)⟩
theorem Env0.in1 {P : Program} {w : World} {K : PySem.W.Frag} {mg : Str → Option Value} {base : Heap} {A : Around} {outer : List Env} {s : Shared} {H : Hp} (e : Env0 P w K mg base A outer s H) :
 Env0 P w K mg base A.in1 outer s H := ⟨e.frames, e.mod, e.bs, e.bsz, e.funs, e.frf, e.hok, e.bare⟩
section
variable {X : Cx} {pins : List (Addr × Obj)} {σ : St} {H : Hp} {s s' : Shared}
theorem Inv.env0 (I : Inv X pins σ H s) : Env0 X.prog X.w X.K X.mg X.base X.A X.stack s H :=
 ⟨I.ok.frames, I.ok.mod, I.bs, Nat.le_trans I.ok.bsz I.sz, I.stack, I.stkFree, I.hok, I.bare⟩
theorem Inv.after {Q : VK} {u : Value} (I : Inv X pins σ H s) (h : CE X.stack X.prog X.w H s Q u s') : EP X pins σ Q u s' := by
 obtain ⟨v, H', os, bare, un, hok, r, q⟩ := h
 obtain ⟨hh, g, d, t, os'⟩ := s'
 obtain rfl : os' = s.os := os
 exact ⟨v, H', I.call (h' := hh) (g' := g) (d' := d) (t' := t) (ch := []) un hok bare (fun b z => absurd z (by simp)), r, q⟩
end
def Bz (sp : Sp) (dvs : List V) (E : XK) (t : TA) : TE := fun σ H Q => t σ H fun vs H1 => sp (vs ++ dvs) H1 Q E
def Binds (K : PySem.W.Frag) (fd : FuncData) (ps : List Str) (ds : List Value) : Prop :=
 ∀ (s : Shared) (us : List Value), K.In s.heap → (us ++ ds).length = ps.length → BindsTo s fd ⟨us, []⟩ (ps.zip (us ++ ds))
theorem Binds.all {K : PySem.W.Frag} {fd : FuncData} {ps : List Str} (h : ∀ us : List Value, us.length = ps.length → bindArgs fd ⟨us, []⟩ = pure (ps.zip us)) : Binds K fd ps [] := fun s us _ hl => by
 rw [List.append_nil] at hl ⊢
 exact .of_eq (h us hl)
def mI (CX : CXT) (X : Cx) (E : XK) : Prop := ∀ (pins : List (Addr × Obj)) (σ : St) (H : Hp) (s : Shared) (e : Value) (s' : Shared), Inv X pins σ H s → CX X.stack H s E e s' → X.xe e s'
section
variable {X : Cx} {CX : CXT} {k : Nat} {f C : Addr} {fd : FuncData} {ps : List Str} {sp : Sp} {dvs : List V} {ds : List Value} {E : XK} {x m : Str} {p pos apos : Pos} {e o : Expr} {es : List Expr} {ta : TE} {t : TA}
theorem x8 {pins : List (Addr × Obj)} {σ : St} {H : Hp} {s : Shared} {Q : VK} {us : List Value} {vs : List V} (F : FnOk X.prog X.w X.K X.mg X.base CX k f fd ps sp) (hr : Room k X.A) (hb : Binds X.K fd ps ds) (hd : Vals dvs ds) (hx : mI CX X E)
 (I : Inv X pins σ H s) (r : Vals vs us) (h : sp (vs ++ dvs) H Q E) : wpAny (model X.prog X.w) X.A (call (.ref f) us) (EP X pins σ Q) X.xe s := by
 have r2 : Vals (vs ++ dvs) (us ++ ds) := r.append hd
 have hl : (us ++ ds).length = ps.length := by rw [← r2.length]; exact F.len _ _ _ _ h
 refine wpAny_call (codeAny_mono (F.run X.A X.stack s H ⟨us, []⟩ (us ++ ds) (vs ++ dvs) Q E hr I.env0 (hb s us I.kIn hl) r2 h) fun r s' hq => ?_)
 cases r with
 | error e => exact hx pins σ H s e s' I hq
 | ok fl =>
  cases fl with
  | ret u => exact I.after hq
  | next => exact False.elim hq
  | brk => exact False.elim hq
  | cont => exact False.elim hq
theorem o9 (F : FnOk X.prog X.w X.K X.mg X.base CX k f fd ps sp) (hr : Room k X.A) (hg : Gl X x) (hm : X.mg x = some (.ref f)) (hk : PySem.W.keepIn X.K (.ref f) = true) (hb : Binds X.K fd ps ds) (hd : Vals dvs ds) (hx : mI CX X E)
 (ha : PA X (e :: es) t) (hdb : (x == ("__debug__" : Str)) = false := by decide) (he : starEach (e :: es) X.env = (false, eval e X.env) :: starEach es X.env := by rfl) (hpl : (backTo pos (starEach es X.env)).any (·.1) = false := by rfl) :
 PE X (.Call (.Name x p) (e :: es) [] pos) (Bz sp dvs E t) := by
 intro pins s σ H Q I h
 refine wpAny_Call_Name_kw (h8 I hg hm ?_ hdb)
 refine PySem.W.callWith_K (h₀ := X.base) I.ok.mod.kin hk (thn (ha pos pins s σ H _ I h) fun us s1 ⟨vs, H1, I1, r, q⟩ => ⟨I1.kIn, ?_⟩) he hpl
 exact x8 F hr hb hd hx I1 r q
structure Mk (K : PySem.W.Frag) (C f : Addr) : Prop where
 makes : PySem.W.makesIn K C = true
 init : PySem.W.findIn K (.ref C) "__init__" = some (some (.ref f))
 fn : PySem.W.isFn K (.ref f) = true
 kp : PySem.W.keepIn K (.ref C) = true
end
section
variable {X : Cx} {CX : CXT} {k : Nat} {f C : Addr} {fd : FuncData} {ps ks : List Str} {sp : Sp} {E : XK} {x m : Str} {p pos apos kpos : Pos} {e o : Expr} {es : List Expr} {kws : List Keyword} {te ta : TE} {t tk : TA} {nm : Option Str}
structure Dk (K : PySem.W.Frag) (fd : FuncData) (ps ks : List Str) (g : List Value → List Value → List Value) (gV : List V → List V → List V) : Prop where
 to : ∀ (s : Shared) (us ws : List Value), K.In s.heap → (g us ws).length = ps.length → BindsTo s fd ⟨us, ks.zip ws⟩ (ps.zip (g us ws))
 rel : ∀ {vs : List V} {us : List Value} {zs : List V} {ws : List Value}, Vals vs us → Vals zs ws → Vals (gV vs zs) (g us ws)
variable {g : List Value → List Value → List Value} {gV : List V → List V → List V}
end
structure dW (N P : List Str) (sc : Scope) : Prop where
 kind : sc.kind = .function
 co : sc.isCoroutine = false
 gen : sc.isGenerator = false
 nd : N.Nodup
 pre : N.take P.length = P
 par : ∀ x ∈ P, sc.names.lookup x = some .local ∨ sc.names.lookup x = some .cell
 nofree : ∀ y ∈ sc.names, y.2 ≠ .free
theorem jW {kindOf : Str → Option NameKind} {x : Str} : ∀ {binds : List (Str × Value)} {m : Str → Option Value}, (∀ v, (x, v) ∉ binds) → bindL kindOf binds m x = m x
 | [], _, _ => rfl
 | (n, v) :: r, m, h => by
  unfold bindL
  rw [jW fun w hw => h w (List.mem_cons_of_mem _ hw)]
  split
  · have : x ≠ n := by rintro rfl; exact h v List.mem_cons_self
    simp [this]
  · rfl
theorem jX {kindOf : Str → Option NameKind} {x : Str} : ∀ {binds : List (Str × Value)} {m : Str → Option Value}, (∀ v, (x, v) ∉ binds) → bindC kindOf binds m x = m x
 | [], _, _ => rfl
 | (n, v) :: r, m, h => by
  unfold bindC
  rw [jX fun w hw => h w (List.mem_cons_of_mem _ hw)]
  split
  · rfl
  · have : x ≠ n := by rintro rfl; exact h v List.mem_cons_self
    simp [this]
theorem jY {kindOf : Str → Option NameKind} {x : Str} {v : Value} : ∀ {P : List Str} {vs : List Value} {i : Nat} {m : Str → Option Value}, P.Nodup → P[i]? = some x → vs[i]? = some v → kindOf x = some .local →
 bindL kindOf (P.zip vs) m x = some v
 | [], _, _, _, _, h, _, _ => by simp at h
 | _ :: _, [], _, _, _, _, h, _ => by simp at h
 | p :: P, w :: vs, 0, m, nd, h1, h2, hk => by
  simp at h1 h2; subst h1; subst h2
  show bindL kindOf ((p, w) :: P.zip vs) m p = _
  unfold bindL
  rw [jW fun v hv => (List.nodup_cons.mp nd).1 (List.of_mem_zip hv).1, if_pos hk]
  simp
 | p :: P, w :: vs, i + 1, m, nd, h1, h2, hk => by
  show bindL kindOf ((p, w) :: P.zip vs) m x = _
  unfold bindL
  exact jY (i := i) (List.nodup_cons.mp nd).2 (by simpa using h1) (by simpa using h2) hk
theorem jZ {kindOf : Str → Option NameKind} {x : Str} {v : Value} : ∀ {P : List Str} {vs : List Value} {i : Nat} {m : Str → Option Value}, P.Nodup → P[i]? = some x → vs[i]? = some v → kindOf x ≠ some .local →
 bindC kindOf (P.zip vs) m x = some v
 | [], _, _, _, _, h, _, _ => by simp at h
 | _ :: _, [], _, _, _, _, h, _ => by simp at h
 | p :: P, w :: vs, 0, m, nd, h1, h2, hk => by
  simp at h1 h2; subst h1; subst h2
  show bindC kindOf ((p, w) :: P.zip vs) m p = _
  unfold bindC
  rw [jX fun v hv => (List.nodup_cons.mp nd).1 (List.of_mem_zip hv).1, if_neg hk]
  simp
 | p :: P, w :: vs, i + 1, m, nd, h1, h2, hk => by
  show bindC kindOf ((p, w) :: P.zip vs) m x = _
  unfold bindC
  exact jZ (i := i) (List.nodup_cons.mp nd).2 (by simpa using h1) (by simpa using h2) hk
def start (N : List Str) (vs : List V) : St := vs.map some ++ List.replicate (N.length - vs.length) none
def mJ (CX : CXT) (P : Program) (w : World) (K : PySem.W.Frag) (mg : Str → Option Value) (base : Heap) (N : List Str) (qual : Str) (scope : Scope) (f : Addr) (cd : Value) (A : Around) (outer : List Env) (s : Shared) (H : Hp) (E : XK) : Cx where
 prog := P
 w := w
 K := K
 mg := mg
 base := base
 A := A.deeper (envOfC qual scope s.heap.objs.size f cd)
 N := N
 s₀ := s
 H₀ := H
 env := envOfC qual scope s.heap.objs.size f cd
 outer := outer
 stack := envOfC qual scope s.heap.objs.size f cd :: outer
 ex := []
 calm := true
 fn := fun _ => true
 pn := []
 xe := fun e s' => wpAny (model P w) (A.deeper (envOfC qual scope s.heap.objs.size f cd)) (leaving (envOfC qual scope s.heap.objs.size f cd) e) (fun _ s'' => CX outer H s E e s'') (fun e' s'' => CX outer H s E e' s'') s'
theorem mK {sc : Scope} {n : Nat} {x : Str} (h : sc.names.lookup x = some .cell) : ∃ c, (cellsFrom n sc.names []).lookup x = some c := by
 have q := PySem.W.cellsFrom_some sc.names n [] (.inl h)
 exact Option.isSome_iff_exists.mp q
theorem j3 {CX : CXT} {P : Program} {w : World} {K : PySem.W.Frag} {mg : Str → Option Value} {base : Heap} {N ps : List Str} {qual : Str} {scope : Scope} {f : Addr} {cd : Value} {A : Around} {outer : List Env} {s s1 : Shared} {H : Hp} {E : XK} {us : List Value} {vs : List V}
 (S : dW N ps scope) (hd : A.handled = none) (e0 : Env0 P w K mg base A outer s H) (hl : vs.length = ps.length) (r : Vals vs us)
 (x : InCallC s s.heap.objs.size (bindL (envOfC qual scope s.heap.objs.size f cd).kindOf (ps.zip us) fun _ => none) (cellsFrom (s.heap.objs.size + 1) scope.names []) (bindC (envOfC qual scope s.heap.objs.size f cd).kindOf (ps.zip us) fun _ => none) s1) :
 Inv (mJ CX P w K mg base N qual scope f cd A outer s H E) [] (start N vs) H s1 := by
 have hpl : ps.length ≤ N.length := by have := congrArg List.length S.pre; rw [List.length_take] at this; omega
 obtain ⟨h1, tk, rfl, hk⟩ := x.done
 have noA : ∀ b : Addr, b ∉ (mJ CX P w K mg base N qual scope f cd A outer s H E).ex := fun b z => absurd (show b ∈ ([] : List Addr) from z) (by simp)
 refine ⟨⟨e0.mod, S.kind, rfl, rfl, Nat.le_refl _, fun y z c h1 h2 => ?_, fun y hy => ?_, fun y c _ h => ?_, fun _ => hd, Around.frames_deeper e0.frames, .inr ⟨rfl, rfl⟩, fun b z => absurd z (noA b), e0.bs, e0.bsz, fun b _ _ => noA b, fun b z => absurd z (noA b), e0.funs, e0.frf⟩,
  rfl, e0.bare, Un.kept hk, ⟨_, x.toInCall.ns, fun i y v h1 h2 h3 => ?_⟩, fun y c h => ⟨_, x.cell y c h⟩, e0.hok.fresh (Nat.le_refl _), fun y c h => ?_, fun p hp => absurd (show p ∈ ([] : List (Addr × Obj)) from hp) (by simp), e0.hok.kept hk, ?_⟩
 · exact name_of_addr x.apart (PySem.mem_of_lookup h1) (PySem.mem_of_lookup h2)
 · have hy : scope.names.lookup y = some .cell ∨ scope.names.lookup y = some .free := hy
   rcases hy with hy | hy
   · exact mK hy
   · exact absurd rfl (S.nofree _ (PySem.mem_of_lookup hy))
 · exact Nat.le_of_lt (x.above y c (PySem.mem_of_lookup h))
 · have hi : i < vs.length := by
    unfold start at h2
    by_cases hi : i < vs.length
    · exact hi
    · rw [List.getElem?_append_right (by simpa using hi)] at h2
      rw [List.getElem?_replicate] at h2
      split at h2 <;> cases h2
   have ha : vs[i]? = some v := by
    unfold start at h2
    rw [List.getElem?_append_left (by simpa using hi), List.getElem?_map] at h2
    cases e : vs[i]? with
    | none => rw [e] at h2; cases h2
    | some a => rw [e] at h2; cases h2; rfl
   obtain ⟨u, hu, rv⟩ := r.get ha
   have hp : ps[i]? = some y := by
    rw [← S.pre, List.getElem?_take_of_lt (by omega)]; exact h1
   have ndP : ps.Nodup := by rw [← S.pre]; exact S.nd.sublist (List.take_sublist _ _)
   refine ⟨u, rv, ?_⟩
   rcases S.par y (List.mem_of_getElem? hp) with k | k
   · exact .inl ⟨k, jY ndP hp hu k⟩
   · obtain ⟨c, e⟩ := mK (n := s.heap.objs.size + 1) k
     refine .inr ⟨.inl k, c, e, ?_⟩
     have q := x.cell y c e
     rw [jZ ndP hp hu (by show scope.names.lookup y ≠ _; rw [k]; decide)] at q
     exact q
 · exact e0.hok.fresh (Nat.le_of_lt (x.above y c (PySem.mem_of_lookup h)))
 · unfold start
   show _ = N.length
   rw [List.length_append, List.length_map, List.length_replicate]
   omega
theorem ya {CX : CXT} {P : Program} {w : World} {K : PySem.W.Frag} {mg : Str → Option Value} {base : Heap} {k : Nat} {f : Addr} {name qual : Str} {params : Arguments} {body : List Stmt} {scope : Scope} {dV kV doc pm cdv ct oc : Value} {an od : Option Addr}
 {osl : Array (Option Value)} {N ps : List Str} {sp : Sp} (lk : K.lookup f = some ⟨oc, od, .func (PySem.W.fnOf name qual params body scope dV kV doc pm an cdv ct), osl⟩) (hcd : PySem.W.codeIn K cdv qual = true) (S : dW N ps scope)
 (len : ∀ vs H Q E, sp vs H Q E → vs.length = ps.length)
 (hbody : ∀ (A : Around) (outer : List Env) (s : Shared) (H : Hp) (vs : List V) (Q : VK) (E : XK), Room k (A.deeper (envOfC qual scope s.heap.objs.size f cdv)) → sp vs H Q E →
   ∃ t, PSs (mJ CX P w K mg base N qual scope f cdv A outer s H E) body t ∧ t { nx := fun _ H' => Q .non H', rt := Q } (start N vs) H) :
 FnOk P w K mg base CX (k + 1) f (PySem.W.fnOf name qual params body scope dV kV doc pm an cdv ct) ps sp := by
 refine ⟨len, fun A outer s H args us vs Q E hr e0 hb r hsp => ?_⟩
 have hl := len _ _ _ _ hsp
 have KX : K.In s.heap := e0.mod.kin.keeps fun b o e => (e0.bs b o e).1
 have lim : s.heap.NoLimit := e0.mod.nolimit.keeps fun b o e => (e0.bs b o e).1
 have hkind : ∀ y ∈ ps.zip us, scope.names.lookup y.1 = some .local ∨ (scope.names.lookup y.1 = some .cell ∧ ((cellsFrom (s.heap.objs.size + 1) scope.names []).lookup y.1).isSome = true) := fun ⟨n, v⟩ hy => by
  rcases S.par n (List.of_mem_zip hy).1 with q | q
  · exact .inl q
  · exact .inr ⟨q, PySem.W.cellsFrom_some _ _ _ (.inl q)⟩
 refine codeAny_call_function hr.depth (KX _ _ lk) rfl S.co S.gen rfl (PySem.W.codeRec_of KX hcd) (hb _ _ _ _ ?_)
 refine wpAny_newFunctionEnv_cells S.kind hkind fun env he s1 x => ?_
 subst he
 refine ⟨lim.keeps x.toInCall.keep, codeAny_func ?_⟩
 obtain ⟨t, ht, hq⟩ := hbody A outer s H vs Q E (hr.deeper _) hsp
 have I : Inv (mJ CX P w K mg base N qual scope f cdv A outer s H E) [] (start N vs) H s1 := j3 S hr.hd e0 hl r x
 refine wpAny_mono (ht [] s1 (start N vs) H _ I hq) (fun fl s' hs => ?_) fun e s' hs => hs
 have fin : ∀ {σ' : St} {H' : Hp} {v : V} {u : Value}, Inv (mJ CX P w K mg base N qual scope f cdv A outer s H E) [] σ' H' s' → RelV v u → Q v H' → CE outer P w H s Q u s' :=
  fun {σ' H' v u} J rv q => ⟨v, H', J.os, J.bare, J.base, J.hok, rv, q⟩
 cases fl with
 | ret u =>
  obtain ⟨v, σ', H', J, rv, q⟩ := hs
  exact fin J rv q
 | next =>
  obtain ⟨σ', H', J, q⟩ := hs
  exact fin (v := V.non) (u := Value.none) J rfl q
 | brk =>
  obtain ⟨_, _, _, q⟩ := hs
  exact False.elim q
 | cont =>
  obtain ⟨_, _, _, q⟩ := hs
  exact False.elim q
section
variable {X : Cx} {x : Str} {p pos : Pos} {e : Expr} {es : List Expr} {t : TA} {id T : String} {r : List V → Hp → VK → Prop}
def tCB (r : List V → Hp → VK → Prop) (t : TA) : TE := fun σ H Q => t σ H fun vs H1 => r vs H1 Q
theorem eG (hc : CallR X (.builtin id) r) (hg : Gl X x) (hm : X.mg x = none) (hv : bootBuiltins x = some (.builtin id)) (ha : PA X (e :: es) t) (hn : x ≠ "__name__" := by decide) (hdb : (x == ("__debug__" : Str)) = false := by decide)
 (he : starEach (e :: es) X.env = (false, eval e X.env) :: starEach es X.env := by rfl) (hpl : (backTo pos (starEach es X.env)).any (·.1) = false := by rfl) : PE X (.Call (.Name x p) (e :: es) [] pos) (tCB r t) := by
 intro pins s σ H Q I h
 refine wpAny_Call_Name_kw (eW I hg hm hv ?_ hn hdb)
 exact PyProof.Rows.callWith_builtin1 (thn (ha pos pins s σ H _ I h) fun us s1 ⟨vs, H1, I1, r1, q1⟩ => hc pins s1 σ H1 vs us Q I1 r1 q1) he hpl
theorem pb (hc : CallR X (.type T) r) (hg : Gl X x) (hm : X.mg x = none) (hv : bootBuiltins x = some (.type T)) (ha : PA X (e :: es) t) (hn : x ≠ "__name__" := by decide) (hdb : (x == ("__debug__" : Str)) = false := by decide)
 (he : starEach (e :: es) X.env = (false, eval e X.env) :: starEach es X.env := by rfl) (hpl : (backTo pos (starEach es X.env)).any (·.1) = false := by rfl) : PE X (.Call (.Name x p) (e :: es) [] pos) (tCB r t) := by
 intro pins s σ H Q I h
 refine wpAny_Call_Name_kw (eW I hg hm hv ?_ hn hdb)
 exact PyProof.Rows.callWith_type1 (thn (ha pos pins s σ H _ I h) fun us s1 ⟨vs, H1, I1, r1, q1⟩ => hc pins s1 σ H1 vs us Q I1 r1 q1) he hpl
end
end L2
namespace HT
open PySem PyProof.Rows
section
open PySem.SeqAt
open PySem.AutoSeq1 (wpAny_loadPart')
open PySem.MeetsSeq PySem.MeetsSeq2 PySem.MeetsSeq3
end
section
variable {prog : Program} {w : World} {A : Around} {E : Value → Shared → Prop} {s : Shared}
theorem cat_tup {t b : Addr} {vs ws : List Value} {Q : Value → Shared → Prop} (ht : IsTup s.heap t vs.toArray) (hb : IsTup s.heap b ws.toArray) (hv : vs ≠ [])
 (h1 : ws = [] → Q (.ref t) s) (h2 : ws ≠ [] → Q (.ref s.heap.objs.size) { s with heap := s.heap.push { cls := .type "tuple", data := .seq (vs ++ ws).toArray } })
 (hsz : vs.length + ws.length ≤ sizeLine) : wpAny (model prog w) A (binaryOp .Add (.ref t) (.ref b)) Q E s := by
 obtain ⟨⟨cls, dd, data, sl⟩, ho, hc, n, hd⟩ := id ht
 obtain ⟨⟨cls2, dd2, data2, sl2⟩, ho2, hc2, n2, hd2⟩ := id hb
 simp only at hc hd hc2 hd2
 subst hc hd hc2 hd2
 have e : vs.toArray ++ ws.toArray = (vs ++ ws).toArray := by simp
 by_cases hw : ws = []
 · exact concat_meets ⟨_, ho, rfl⟩ ⟨_, ho2, rfl⟩ noFill_tuple_add seq_tuple_add PySem.F.slot_tuple_add PySem.F.entry_tuple_add (PySem.F.args_tuple_add_2 _ _)
    (tuple_addW1 t b vs.toArray ws.toArray n n2 dd dd2 sl sl2 (by simpa using hv) (by simp [hw])) ⟨ho, ho2, h1 hw⟩
 · refine concat_meets ⟨_, ho, rfl⟩ ⟨_, ho2, rfl⟩ noFill_tuple_add seq_tuple_add PySem.F.slot_tuple_add PySem.F.entry_tuple_add (PySem.F.args_tuple_add_2 _ _)
    (tuple_addW2 t b vs.toArray ws.toArray n n2 dd dd2 sl sl2 (by simpa using hv) (by simpa using hw) (by rw [List.size_toArray, List.size_toArray]; exact hsz)) ⟨ho, ho2, ?_⟩
   rw [e]
   exact h2 hw
def sIx (n d : Nat) : Option Int → Nat
 | none => d
 | some v => if v < 0 then (v + (n : Int)).toNat else min v.toNat n
end
end HT
namespace L2
open PySem PySem.Spec PyProof.Rows
abbrev TO := St → Hp → (Option Int → Hp → Prop) → Prop
def PO (X : Cx) (e : Option Expr) (t : TO) : Prop :=
 ∀ (pins : List (Addr × Obj)) (s : Shared) (σ : St) (H : Hp) (Q : Option Int → Hp → Prop), Inv X pins σ H s → t σ H Q →
  wpAny (model X.prog X.w) X.A (evalPart e X.env) (fun u s' => ∃ o H', Inv X pins σ H' s' ∧ IsPart u o ∧ Q o H') X.xe s
def uY : TO := fun _ H Q => Q none H
def BA (t : TE) : TO := fun σ H Q => t σ H fun x H1 => ∃ i, x = .int i ∧ Q (some i) H1
section
variable {X : Cx} {e : Expr} {te : TE} {lo hi : Option Expr} {tl th : TO} {pos p2 : Pos}
theorem uZ : PO X none uY := by
 intro pins s σ H Q I h
 rw [evalPart_none]
 exact wpAny_pure ⟨none, H, I, .none, h⟩
theorem u0 (h : PE X e te) : PO X (some e) (BA te) := by
 intro pins s σ H Q I hw
 rw [evalPart_some]
 refine thn (h pins s σ H _ I hw) fun u s1 ⟨x, H1, I1, r1, q1⟩ => ?_
 obtain ⟨i, rfl, q⟩ := q1
 obtain ⟨t, rfl⟩ := r1
 exact ⟨some i, H1, I1, .int i t, q⟩
def SlR (X : Cx) (r : V → Option Int → Option Int → Hp → VK → Prop) : Prop :=
 ∀ (pins : List (Addr × Obj)) (s : Shared) (σ : St) (H : Hp) (x : V) (v vl vu : Value) (lo hi : Option Int) (sl : Addr) (Q : VK), Inv X pins σ H s → RelV x v → s.heap.IsSliceOf sl vl vu .none → IsPart vl lo → IsPart vu hi → r x lo hi H Q →
  ∃ T id, typeLookup (.type T) "__getitem__" = pure (some (.builtin id)) ∧ s.TypeIs v T ∧ wpAny (model X.prog X.w) X.A (getItem v (.ref sl)) (EP X pins σ Q) X.xe s
theorem SlR.or {r r' : V → Option Int → Option Int → Hp → VK → Prop} (h : SlR X r) (h' : SlR X r') : SlR X (fun x lo hi H Q => r x lo hi H Q ∨ r' x lo hi H Q) := by
 intro pins s σ H x v vl vu lo hi sl Q I rx hs pl pu q
 rcases q with q | q
 · exact h pins s σ H x v vl vu lo hi sl Q I rx hs pl pu q
 · exact h' pins s σ H x v vl vu lo hi sl Q I rx hs pl pu q
def tSl (r : V → Option Int → Option Int → Hp → VK → Prop) (te : TE) (tl th : TO) : TE := fun σ H Q => te σ H fun x H1 => tl σ H1 fun l H2 => th σ H2 fun u H3 => r x l u H3 Q
theorem rT {r : V → Option Int → Option Int → Hp → VK → Prop} (hr : SlR X r) (he : PE X e te) (hl : PO X lo tl) (hu : PO X hi th) : PE X (.Subscript e (.Slice lo hi none p2) pos) (tSl r te tl th) := by
 intro pins s σ H Q I h
 refine Subscript_ (thn (he pins s σ H _ I h) fun v s1 ⟨x, H1, I1, r1, q1⟩ => ?_)
 refine wpAny_Slice (thn (hl pins s1 σ H1 _ I1 q1) fun vl s2 ⟨l, H2, I2, pl, q2⟩ => thn (hu pins s2 σ H2 _ I2 q2) fun vu s3 ⟨u, H3, I3, pu, q3⟩ => ?_)
 rw [evalPart_none]
 refine wpAny_pure ?_
 have I4 : Inv X pins σ H3 { s3 with heap := s3.heap.push { cls := .type "slice", data := .fields #[vl, vu, .none] } } := I3.kept (t' := s3.toks) fun b ob q => Heap.get?_push_of_some _ q
 obtain ⟨T, id, hT, ht, hg⟩ := hr pins { s3 with heap := s3.heap.push { cls := .type "slice", data := .fields #[vl, vu, .none] } } σ H3 x v vl vu l u s3.heap.objs.size Q I4 r1 (Heap.IsSliceOf.new ..) pl pu q3
 show wpAny (model X.prog X.w) X.A (subscriptTail e (.Slice lo hi none p2) v (.ref s3.heap.objs.size)) (EP X pins σ Q) X.xe { s3 with heap := s3.heap.push { cls := .type "slice", data := .fields #[vl, vu, .none] } }
 exact tail_any (ops := [.ref s3.heap.objs.size, v]) ht hT hg (by with_unfolding_all rfl)
def yb (xs : List V) (lo hi : Option Int) : List V := (xs.drop (HT.sIx xs.length 0 lo)).take (HT.sIx xs.length xs.length hi - HT.sIx xs.length 0 lo)
theorem lz (xs : List V) (lo hi : Option Int) : (yb xs lo hi).length ≤ xs.length := by
 unfold yb
 rw [List.length_take, List.length_drop]
 omega
def yc (K : PySem.W.Frag) : R2 := fun x y H Q => ∃ a b xs ys, x = .ref a ∧ y = .ref b ∧ SqT K H a xs ∧ SqT K H b ys ∧ xs ≠ [] ∧ xs.length + ys.length ≤ sizeLine ∧
 (ys = [] → Q (.ref a) H) ∧ (ys ≠ [] → ∀ p, H p = none → Q (.ref p) (upd H p (.tup (xs ++ ys))))
theorem Vals.nil_iff {xs : List V} {us : List Value} (r : Vals xs us) : us = [] ↔ xs = [] := by
 cases r with
 | nil => simp
 | cons _ _ => simp
theorem op_catT : OpR X (binaryOp .Add) (yc X.K) := by
 intro pins s σ H x y v u Q I rx ry h
 obtain ⟨a, b, xs, ys, rfl, rfl, ha, hb, hx, hz, q1, q2⟩ := h
 cases rx
 cases ry
 obtain ⟨its, r1, p1, _⟩ := I.tuple ha
 obtain ⟨its2, r2, p2, _⟩ := I.tuple hb
 refine HT.cat_tup p1 p2 (fun z => hx (r1.nil_iff.mp z)) (fun z => ⟨.ref a, H, I, rfl, q1 (r2.nil_iff.mp z)⟩) (fun z => ?_) (by rw [← r1.length, ← r2.length]; exact hz)
 refine ⟨.ref s.heap.objs.size, _, I.laid (t' := s.toks) (o := .tup (xs ++ ys)) (fun b ob q => Heap.get?_push_of_some _ q) (Nat.le_refl _) ?_, rfl, q2 (fun w => z (r2.nil_iff.mpr w)) _ (I.hok.fresh (Nat.le_refl _))⟩
 exact ⟨by rw [List.length_append]; exact hz, _, r1.append r2, IsTup.new _ _⟩
end
def ixN (n : Nat) (i : Int) : Option Nat := if 0 ≤ i then (if i < n then some i.toNat else none) else if -(n : Int) ≤ i then some (i + n).toNat else none
def atI {α : Type} (xs : List α) (i : Int) : Option α := (ixN xs.length i).bind fun j => xs[j]?
theorem u5 {n : Nat} {i : Int} {j : Nat} (h : ixN n i = some j) : seqIndex? i n = some j ∧ j < n ∧ -(n : Int) ≤ i ∧ i < n := by
 unfold ixN at h
 by_cases h0 : 0 ≤ i
 · rw [if_pos h0] at h
   by_cases h1 : i < n
   · rw [if_pos h1] at h
     have e : i.toNat = j := Option.some.inj h
     exact ⟨by rw [seqIndex_of h0 h1, e], by omega, by omega, h1⟩
   · rw [if_neg h1] at h; cases h
 · rw [if_neg h0] at h
   by_cases h1 : -(n : Int) ≤ i
   · rw [if_pos h1] at h
     have e : (i + n).toNat = j := Option.some.inj h
     exact ⟨by rw [seqIndex_neg (by omega) h1, e], by omega, h1, by omega⟩
   · rw [if_neg h1] at h; cases h
theorem lA {α : Type} {xs : List α} {i : Int} {v : α} (h : atI xs i = some v) : ∃ j, seqIndex? i xs.length = some j ∧ xs[j]? = some v ∧ j < xs.length ∧ -(xs.length : Int) ≤ i ∧ i < xs.length := by
 unfold atI at h
 cases e : ixN xs.length i with
 | none => rw [e] at h; cases h
 | some j =>
  rw [e] at h
  obtain ⟨h1, h2, h3, h4⟩ := u5 e
  exact ⟨j, h1, h, h2, h3, h4⟩
def pc (b : Expr) : Prop := ∀ o i, subscripted b false o i = operate [o, i] (getItem o i)
def IxR (X : Cx) (r : R2) : Prop :=
 ∀ (value slice : Expr) (pins : List (Addr × Obj)) (s : Shared) (σ : St) (H : Hp) (x y : V) (v u : Value) (Q : VK), Inv X pins σ H s → RelV x v → RelV y u → r x y H Q →
  subscripted slice false v u = operate [v, u] (getItem v u) → wpAny (model X.prog X.w) X.A (subscriptTail value slice v u) (EP X pins σ Q) X.xe s
def MtR (X : Cx) (id : String) (r : V → List V → Hp → VK → Prop) : Prop :=
 ∀ (pins : List (Addr × Obj)) (s : Shared) (σ : St) (H : Hp) (x : V) (xs : List V) (v : Value) (us : List Value) (Q : VK), Inv X pins σ H s → RelV x v → Vals xs us → r x xs H Q →
  wpAny (model X.prog X.w) X.A (call (.builtin id) (v :: us)) (EP X pins σ Q) X.xe s
section
variable {X : Cx} {a b : Expr} {ta tb : TE} {pos : Pos}
theorem IxR.or {r r' : R2} (h : IxR X r) (h' : IxR X r') : IxR X (fun x y H Q => r x y H Q ∨ r' x y H Q) := by
 intro value slice pins s σ H x y v u Q I rx ry q hs
 rcases q with q | q
 · exact h value slice pins s σ H x y v u Q I rx ry q hs
 · exact h' value slice pins s σ H x y v u Q I rx ry q hs
theorem MtR.or {id : String} {r r' : V → List V → Hp → VK → Prop} (h : MtR X id r) (h' : MtR X id r') : MtR X id (fun x xs H Q => r x xs H Q ∨ r' x xs H Q) := by
 intro pins s σ H x xs v us Q I rx rs q
 rcases q with q | q
 · exact h pins s σ H x xs v us Q I rx rs q
 · exact h' pins s σ H x xs v us Q I rx rs q
theorem BB {r : R2} (hr : IxR X r) (ha : PE X a ta) (hb : PE X b tb) (hs : pc b) : PE X (.Subscript a b pos) (tOp r ta tb) := by
 intro pins s σ H Q I h
 exact Subscript_ (Bs ha hb I h fun v u s2 x y H2 I2 rx ry q => hr a b pins s2 σ H2 x y v u Q I2 rx ry q (hs _ _))
def Dl (K : PySem.W.Frag) : R2 := fun x y H Q => ∃ p xs i v, x = .ref p ∧ y = .int i ∧ SqL K H p xs ∧ atI xs i = some v ∧ Q v H
def Do (K : PySem.W.Frag) : R2 := fun x y H Q => ∃ p xs i v, x = .ref p ∧ y = .int i ∧ SqT K H p xs ∧ atI xs i = some v ∧ Q v H
def Dr : R2 := fun x y H Q => ∃ z i c, x = .str z ∧ y = .int i ∧ z.length ≤ sizeLine ∧ atI z.cps.toList i = some c ∧ Q (.str ⟨#[c]⟩) H
theorem ix_list : IxR X (Dl X.K) := by
 intro value slice pins s σ H x y v u Q I rx ry h hs
 obtain ⟨p, xs, i, z, rfl, rfl, hq, he, q⟩ := h
 cases rx
 obtain ⟨t, rfl⟩ := ry
 obtain ⟨its, r, pl, hz⟩ := I.list hq
 obtain ⟨j, h1, h2, h3, h4, h5⟩ := lA he
 obtain ⟨w, ew, rw'⟩ := r.get h2
 have hl := r.length
 have hn := mF
 have fin : EP X pins σ Q w s := ⟨z, H, I, rw', q⟩
 by_cases h0 : 0 ≤ i
 · have hj : i.toNat = j := by
    rw [seqIndex_of h0 h5] at h1
    exact Option.some.inj h1
   exact item_listR pl.isList h0 (by omega) (by rw [hj]; simpa using ew) fin hs
 · have hj : (i + (its.toArray.size : Int)).toNat = j := by
    rw [seqIndex_neg (by omega) h4] at h1
    rw [List.size_toArray, ← hl]
    exact Option.some.inj h1
   exact subscriptTail_builtinR (x := w) pl.isList.typeIs slot_list_getitem.lookup
    (wpAny_getItem_list_neg (Q := fun r s' => r = w ∧ EP X pins σ Q r s') pl.isList (by omega) (by rw [List.size_toArray] <;> omega) (by omega) (by rw [hj]; simpa using ew) ⟨rfl, fin⟩) hs
theorem ix_tup : IxR X (Do X.K) := by
 intro value slice pins s σ H x y v u Q I rx ry h hs
 obtain ⟨p, xs, i, z, rfl, rfl, hq, he, q⟩ := h
 cases rx
 obtain ⟨t, rfl⟩ := ry
 obtain ⟨its, r, pl, hz⟩ := I.tuple hq
 obtain ⟨j, h1, h2, h3, h4, h5⟩ := lA he
 obtain ⟨w, ew, rw'⟩ := r.get h2
 have hl := r.length
 have hn := mF
 have fin : EP X pins σ Q w s := ⟨z, H, I, rw', q⟩
 exact subscriptTail_builtinR (x := w) pl.typeIs slot_tuple_getitem.lookup
  (getItem_tuple (j := j) (Q := fun r s' => r = w ∧ EP X pins σ Q r s') pl (by omega) (by omega) (by rw [List.size_toArray, ← hl]; exact h1) (by simpa using ew) ⟨rfl, fin⟩) hs
theorem yd : IxR X Dr := by
 intro value slice pins s σ H x y v u Q I rx ry h hs
 obtain ⟨z, i, c, rfl, rfl, hz, he, q⟩ := h
 obtain ⟨t, rfl⟩ := rx
 obtain ⟨t', rfl⟩ := ry
 obtain ⟨j, h1, h2, h3, h4, h5⟩ := lA he
 have hl : z.cps.toList.length = z.length := by simp [Str.length]
 rw [hl] at h1 h4 h5
 have hn := mF
 exact tail_any (typeIs_str s z t) slot_str_getitem.lookup (getItem_str (c := c) (by
  have e1 : decide (i < -(2 ^ 63 : Int)) = false := decide_eq_false (by omega)
  have e2 : decide (i ≥ 2 ^ 63) = false := decide_eq_false (by omega)
  rw [e1, e2, Bool.or_false]) (by rw [h1]; simpa using h2) ⟨.str ⟨#[c]⟩, H, I.tok _, ⟨_, rfl⟩, q⟩) hs
def rIx (K : PySem.W.Frag) : R2 := fun x y H Q => Dl K x y H Q ∨ Do K x y H Q ∨ Dr x y H Q
theorem ye : IxR X (rIx X.K) := ix_list.or (ix_tup.or yd)
theorem Inv.lst {pins : List (Addr × Obj)} {σ : St} {H : Hp} {s : Shared} {p : Addr} {xs : List V} (I : Inv X pins σ H s) (h : H p = some (.lst xs)) :
 ∃ (its : List Value) (n : Nat), Vals xs its ∧ s.heap.get? p = some { cls := .type "list", data := .seq its.toArray n } ∧ xs.length ≤ sizeLine := by
 obtain ⟨z, its, n, r, e⟩ := I.hok p _ h
 exact ⟨its, n, r, e, z⟩
theorem j4 (lo hi : Option Int) (n : Nat) : (sliceBounds lo hi none n).1 = ((HT.sIx n 0 lo : Nat) : Int) ∧ (sliceBounds lo hi none n).2.1 = ((HT.sIx n n hi : Nat) : Int) ∧ (sliceBounds lo hi none n).2.2 = 1 := by
 refine ⟨?_, ?_, rfl⟩
 · cases lo with
   | none => simp [sliceBounds, HT.sIx]
   | some i =>
    simp only [sliceBounds, HT.sIx, Option.getD_none, show (1 : Int) > 0 by decide, if_true]
    by_cases h : i < 0
    · simp only [h, if_true] <;> omega
    · simp only [h, if_false] <;> omega
 · cases hi with
   | none => simp [sliceBounds, HT.sIx]
   | some i =>
    simp only [sliceBounds, HT.sIx, Option.getD_none, show (1 : Int) > 0 by decide, if_true]
    by_cases h : i < 0
    · simp only [h, if_true] <;> omega
    · simp only [h, if_false] <;> omega
theorem jp (its : List Value) (lo hi : Option Int) : slicePick its.toArray lo hi none = ((its.drop (HT.sIx its.length 0 lo)).take (HT.sIx its.length its.length hi - HT.sIx its.length 0 lo)).toArray := by
 obtain ⟨h1, h2, h3⟩ := j4 lo hi its.toArray.size
 unfold slicePick
 rw [h1, h2, h3]
 simp only [sliceRange_one, pick_run, List.size_toArray] <;> rfl
def Eg (K : PySem.W.Frag) : V → Option Int → Option Int → Hp → VK → Prop := fun x lo hi H Q => ∃ a xs, x = .ref a ∧ SqL K H a xs ∧ ∀ p, H p = none → Q (.ref p) (upd H p (.lst (yb xs lo hi)))
theorem u8 : SlR X (Eg X.K) := by
 intro pins s σ H x v vl vu lo hi sl Q I rx hs pl pu h
 obtain ⟨a, xs, rfl, hx, q⟩ := h
 cases rx
 obtain ⟨its, r, ht, hz⟩ := I.list hx
 have hlen := r.length
 refine ⟨"list", _, slot_list_getitem.lookup, ht.isList.typeIs, ?_⟩
 refine wpAny_getItem_list_slice ht.isList hs pl pu .none (by simp) ?_ (by rw [List.size_toArray] <;> omega)
 rw [jp, ← hlen]
 refine ⟨.ref s.heap.objs.size, _, I.laid (t' := s.toks) (o := .lst (yb xs lo hi)) (fun b ob q => Heap.get?_push_of_some _ q) (Nat.le_refl _) ?_, rfl, q _ (I.hok.fresh (Nat.le_refl _))⟩
 exact ⟨Nat.le_trans (lz xs lo hi) hz, _, 0, (r.drop (HT.sIx xs.length 0 lo)).take (HT.sIx xs.length xs.length hi - HT.sIx xs.length 0 lo), Heap.get?_push_size _ rfl⟩
def dR : V → Bool
 | .non => true
 | .bl _ => true
 | .int _ => true
 | .str _ => true
 | _ => false
def eqV : V → V → Bool
 | .non, .non => true
 | .bl a, .bl b => a == b
 | .bl a, .int b => (if a then 1 else 0) == b
 | .int a, .bl b => a == (if b then 1 else 0)
 | .int a, .int b => a == b
 | .str a, .str b => a == b
 | _, _ => false
theorem yf {A : Around} {s : Shared} {y x : V} {u v : Value} (ry : RelV y u) (rx : RelV x v) (fy : dR y = true) (fx : dR x = true) : SeqAt.EqAt A s u v (eqV y x) := by
 cases y with
 | non =>
  cases ry
  cases x with
  | non => cases rx; exact SeqAt.EqAt.same _
  | bl b => cases rx; exact SeqAt.EqAt.none_bool b
  | int b => obtain ⟨t, rfl⟩ := rx; exact SeqAt.EqAt.none_int b t
  | str b => obtain ⟨t, rfl⟩ := rx; exact SeqAt.EqAt.none_str b t
  | _ => exact absurd (show false = true from fx) Bool.false_ne_true
 | bl a =>
  cases ry
  cases x with
  | non => cases rx; exact SeqAt.EqAt.bool_none a
  | bl b => cases rx; exact SeqAt.EqAt.bool_bool a b
  | int b => obtain ⟨t, rfl⟩ := rx; exact SeqAt.EqAt.bool_int a b t
  | str b => obtain ⟨t, rfl⟩ := rx; exact SeqAt.EqAt.bool_str a b t
  | _ => exact absurd (show false = true from fx) Bool.false_ne_true
 | int a =>
  obtain ⟨t', rfl⟩ := ry
  cases x with
  | non => cases rx; exact SeqAt.EqAt.int_none a t'
  | bl b => cases rx; exact SeqAt.EqAt.int_bool a t' b
  | int b => obtain ⟨t, rfl⟩ := rx; exact SeqAt.EqAt.int_int a t' b t
  | str b => obtain ⟨t, rfl⟩ := rx; exact SeqAt.EqAt.int_str a t' b t
  | _ => exact absurd (show false = true from fx) Bool.false_ne_true
 | str a =>
  obtain ⟨t', rfl⟩ := ry
  cases x with
  | non => cases rx; exact SeqAt.EqAt.str_none a t'
  | bl b => cases rx; exact SeqAt.EqAt.str_bool a t' b
  | int b => obtain ⟨t, rfl⟩ := rx; exact SeqAt.EqAt.str_int a t' b t
  | str b => obtain ⟨t, rfl⟩ := rx; exact SeqAt.EqAt.str_str a t' b t
  | _ => exact absurd (show false = true from fx) Bool.false_ne_true
 | _ => exact absurd (show false = true from fy) Bool.false_ne_true
def eqU (x : V) (u : Value) : Bool := match u with
 | .none => eqV .non x
 | .bool b => eqV (.bl b) x
 | .int i _ => eqV (.int i) x
 | .str z _ => eqV (.str z) x
 | _ => false
theorem mL {x y : V} {u : Value} (r : RelV y u) (f : dR y = true) : eqU x u = eqV y x := by
 cases y with
 | non => cases r; rfl
 | bl b => cases r; rfl
 | int i => obtain ⟨t, rfl⟩ := r; rfl
 | str z => obtain ⟨t, rfl⟩ := r; rfl
 | _ => exact absurd (show false = true from f) Bool.false_ne_true
theorem ib {x : V} : ∀ {xs : List V} {us : List Value}, Vals xs us → xs.all dR = true → us.any (eqU x) = xs.any fun y => eqV y x
 | _, _, .nil, _ => rfl
 | y :: xs, u :: us, .cons r t, f => by
  rw [List.all_cons, Bool.and_eq_true] at f
  rw [List.any_cons, List.any_cons, mL r f.1, ib t f.2]
theorem dB {A : Around} {s : Shared} {x : V} {v : Value} (rx : RelV x v) (fx : dR x = true) : ∀ {xs : List V} {us : List Value}, Vals xs us → xs.all dR = true → ∀ u ∈ us, SeqAt.EqAt A s u v (eqU x u)
 | _, _, .nil, _ => fun u hu => by cases hu
 | y :: xs, u :: us, .cons r t, f => fun u' hu => by
  rw [List.all_cons, Bool.and_eq_true] at f
  rcases List.mem_cons.mp hu with rfl | hu
  · rw [mL r f.1]; exact yf r rx f.1 fx
  · exact dB rx fx t f.2 u' hu
def inV (x : V) (xs : List V) : Bool := xs.any fun y => eqV y x
def rIn (K : PySem.W.Frag) (neg : Bool) : R2 := fun x y H Q => ∃ p xs, y = .ref p ∧ (SqL K H p xs ∨ SqT K H p xs) ∧ dR x = true ∧ xs.all dR = true ∧ Q (.bl (if neg then !inV x xs else inV x xs)) H
theorem pe : OpR X (compareOp .In) (rIn X.K false) := by
 intro pins s σ H x y v u Q I rx ry h
 obtain ⟨p, xs, rfl, hq, fx, fs, q⟩ := h
 cases ry
 rcases hq with hq | hq
 · obtain ⟨its, r, pl, hz⟩ := I.list hq
   refine SeqAt.in_listAt (eqU x) pl.isList (fun w hw => dB rx fx r fs w (by simpa using hw)) ⟨.bl _, H, I, rfl, ?_⟩
   rw [show its.toArray.any (eqU x) = its.any (eqU x) by simp, ib r fs]
   exact q
 · obtain ⟨its, r, pl, hz⟩ := I.tuple hq
   refine SeqAt.in_tupleAt (eqU x) pl (fun w hw => dB rx fx r fs w (by simpa using hw)) ⟨.bl _, H, I, rfl, ?_⟩
   rw [show its.toArray.any (eqU x) = its.any (eqU x) by simp, ib r fs]
   exact q
theorem j5 : OpR X (compareOp .NotIn) (rIn X.K true) := by
 intro pins s σ H x y v u Q I rx ry h
 obtain ⟨p, xs, rfl, hq, fx, fs, q⟩ := h
 cases ry
 rcases hq with hq | hq
 · obtain ⟨its, r, pl, hz⟩ := I.list hq
   refine SeqAt.notIn_listAt (eqU x) pl.isList (fun w hw => dB rx fx r fs w (by simpa using hw)) ⟨.bl _, H, I, rfl, ?_⟩
   rw [show its.toArray.any (eqU x) = its.any (eqU x) by simp, ib r fs]
   exact q
 · obtain ⟨its, r, pl, hz⟩ := I.tuple hq
   refine SeqAt.notIn_tupleAt (eqU x) pl (fun w hw => dB rx fx r fs w (by simpa using hw)) ⟨.bl _, H, I, rfl, ?_⟩
   rw [show its.toArray.any (eqU x) = its.any (eqU x) by simp, ib r fs]
   exact q
theorem op_notIn_str : OpR X (compareOp .NotIn) (fun x y H Q => ∃ i j, x = .str i ∧ y = .str j ∧ Q (.bl (!(!(Builtin.Str.occurrences j i 0 j.length 1).isEmpty))) H) := by
 intro pins s σ H x y v u Q I rx ry h
 obtain ⟨i, j, rfl, rfl, q⟩ := h
 obtain ⟨t, rfl⟩ := rx
 obtain ⟨t', rfl⟩ := ry
 exact notIn_str ⟨.bl _, H, I, rfl, q⟩
theorem CallR.or {f : Value} {r r' : List V → Hp → VK → Prop} (h : CallR X f r) (h' : CallR X f r') : CallR X f (fun xs H Q => r xs H Q ∨ r' xs H Q) := by
 intro pins s σ H xs us Q I rs q
 rcases q with q | q
 · exact h pins s σ H xs us Q I rs q
 · exact h' pins s σ H xs us Q I rs q
theorem jq : CallR X (.type "tuple") (fun xs H Q => ∃ p ys, xs = [.ref p] ∧ ((SqL X.K H p ys ∧ ∀ l, H l = none → Q (.ref l) (upd H l (.tup ys))) ∨ (SqT X.K H p ys ∧ Q (.ref p) H))) := by
 intro pins s σ H xs us Q I r h
 obtain ⟨p, ys, rfl, h⟩ := h
 obtain ⟨u, rfl, rx⟩ := dQ r
 cases rx
 rcases h with ⟨hq, q⟩ | ⟨hq, q⟩
 · obtain ⟨its, r', pl, hz⟩ := I.list hq
   have hlen := r'.length
   refine call_tuple_list pl.isList (fun h' kp => ?_) (by simp only [List.size_toArray] <;> omega)
   have I1 : Inv X pins σ H { s with heap := h' } := I.kept (t' := s.toks) kp
   have I2 : Inv X pins σ (upd H h'.objs.size (.tup ys)) { s with heap := h'.push { cls := .type "tuple", data := .seq its.toArray } } :=
    I1.laid (t' := s.toks) (fun b o e => Heap.get?_push_of_some _ e) (Nat.le_refl _) (show ObjOk X.prog X.w _ _ _ (.tup ys) from ⟨hz, its, r', IsTup.new _ _⟩)
   exact ⟨.ref h'.objs.size, _, I2, rfl, q _ (I1.hok.fresh (Nat.le_refl _))⟩
 · obtain ⟨its, r', pl, hz⟩ := I.tuple hq
   exact call_tuple_same pl ⟨.ref p, H, I, rfl, q⟩
def tyV (K : PySem.W.Frag) (T : String) (x : V) (H : Hp) : Prop := match x with
 | .str _ => T = "str"
 | .int _ => T = "int"
 | .ref p => (T = "list" ∧ ∃ xs, SqL K H p xs) ∨ (T = "tuple" ∧ ∃ o, K.lookup p = some o ∧ o.cls = .type "tuple" ∧ o.dict = none) ∨
  (T = "dict" ∧ ((∃ kvs, H p = some (.dK kvs)) ∨ ∃ kvs, H p = some (.dT kvs))) ∨ (T = "set" ∧ ∃ S n, H p = some (.set S n))
 | _ => False
theorem yg {pins : List (Addr × Obj)} {σ : St} {H : Hp} {s : Shared} {T : String} {x : V} {v : Value} (I : Inv X pins σ H s) (r : RelV x v) (ty : tyV X.K T x H) :
 s.TypeIs v T ∧ ∀ a, v = .ref a → ∃ ob, s.heap.get? a = some ob ∧ ob.dict = none := by
 cases x with
 | str z =>
  obtain ⟨t, rfl⟩ := r
  cases (show T = "str" from ty)
  exact ⟨typeIs_str s z t, fun _ e => nomatch e⟩
 | int i =>
  obtain ⟨t, rfl⟩ := r
  cases (show T = "int" from ty)
  exact ⟨typeIs_int s i t, fun _ e => nomatch e⟩
 | ref p =>
  cases r
  rcases ty with ⟨rfl, xs, hq⟩ | ⟨rfl, o, hk, hc, hd⟩ | ⟨rfl, hk⟩ | ⟨rfl, S, n, hk⟩
  · obtain ⟨its, _, pl, _⟩ := I.list hq
    refine ⟨pl.isList.typeIs, fun a e => ?_⟩
    cases e
    obtain ⟨o, n, e, c, hd, _⟩ := pl
    exact ⟨o, e, hd⟩
  · refine ⟨⟨o, I.kIn p o hk, hc⟩, fun a e => ?_⟩
    cases e
    exact ⟨o, I.kIn _ o hk, hd⟩
  · have z : ∃ o, s.heap.get? p = some o ∧ o.ExactDict := by
     rcases hk with ⟨kvs, hk⟩ | ⟨kvs, hk⟩
     · obtain ⟨_, _, _, _, o, _, _, e, ex, _⟩ := I.hok p _ hk
       exact ⟨o, e, ex⟩
     · obtain ⟨_, _, _, _, o, _, _, e, ex, _⟩ := I.hok p _ hk
       exact ⟨o, e, ex⟩
    obtain ⟨o, e, ex⟩ := z
    refine ⟨⟨o, e, ex.1⟩, fun a e2 => ?_⟩
    cases e2
    exact ⟨o, e, ex.2.1⟩
  · obtain ⟨o, _, _, _, e, ex, _⟩ := I.hok p _ hk
    refine ⟨⟨o, e, ex.1⟩, fun a e2 => ?_⟩
    cases e2
    exact ⟨o, e, ex.2.1⟩
 | _ => exact False.elim ty
def tBM (K : PySem.W.Frag) (T : String) (r : V → List V → Hp → VK → Prop) (to : TE) (t : TA) : TE := fun σ H Q => to σ H fun x H1 => tyV K T x H1 ∧ t σ H1 fun xs H2 => r x xs H2 Q
variable {o e : Expr} {es : List Expr} {to : TE} {t : TA} {name : Str} {apos cpos : Pos} {T id : String} {r : V → List V → Hp → VK → Prop}
theorem rV (pa : PlainAttrs T) (slot : Slot T name id) (hty : typeOf (.builtin id) = pure (.type "method_descriptor")) (hm : MtR X id r) (ho : PE X o to) (ha : PA X (e :: es) t)
 (hbase : attributeBase o name X.env (eval o X.env) = eval o X.env := by rfl)
 (hfew : ((backTo cpos (starEach (e :: es) X.env)).all (fun x => !x.1) && (backToKw cpos (keywordEach [] X.env)).all (fun x => x.1.isSome)
   && decide ((e :: es).length + ([] : List Keyword).length + (if ([] : List Keyword).isEmpty then 0 else 1) < 30)) = true := by rfl)
 (hline : (apos.endLine == cpos.line) = true := by rfl) (hs : starEach (e :: es) X.env = (false, eval e X.env) :: starEach es X.env := by rfl) (hplain : (backTo cpos (starEach es X.env)).any (·.1) = false := by rfl) :
 PE X (.Call (.Attribute o name apos) (e :: es) [] cpos) (tBM X.K T r to t) := by
 intro pins s σ H Q I h
 refine wpAny_Call_method_late hbase hfew hline rfl (thn (ho pins s σ H _ I h) fun v s1 ⟨x, H1, I1, r1, ty, q1⟩ => ?_)
 obtain ⟨h1, h2⟩ := yg I1 r1 ty
 refine ⟨T, id, pa, slot, hty, h1, h2, ?_⟩
 have hA := ha cpos pins s1 σ H1 _ I1 q1
 rw [hs] at hA ⊢
 refine Calls.callWith_builtin (by show (false || (backTo cpos (starEach es X.env)).any (·.1)) = false; rw [hplain] <;> rfl) (Calls.evalArgs_plain ?_)
 exact thn hA fun us s2 ⟨vs, H2, I2, r2, q2⟩ => hm pins s2 σ H2 x vs v us Q I2 r1 r2 q2
end
def MtM (X : Cx) (id : String) (r : V → List V → Hp → VK → Prop) : Prop :=
 ∀ (pins : List (Addr × Obj)) (s : Shared) (σ : St) (H : Hp) (x : V) (xs : List V) (v : Value) (us : List Value) (Q : VK), Inv X pins σ H s → RelV x v → Vals xs us → r x xs H Q →
  wpAny (model X.prog X.w) X.A (call (.builtin id) (v :: us)) (EP X pins σ Q) X.xe s
theorem Vals.one : ∀ {x : V} {us : List Value}, Vals [x] us → ∃ u, us = [u] ∧ RelV x u
 | _, _, .cons r .nil => ⟨_, rfl, r⟩
theorem Vals.two : ∀ {x y : V} {us : List Value}, Vals [x, y] us → ∃ u v, us = [u, v] ∧ RelV x u ∧ RelV y v
 | _, _, _, .cons r (.cons q .nil) => ⟨_, _, rfl, r, q⟩
theorem Vals.zero : ∀ {us : List Value}, Vals [] us → us = []
 | _, .nil => rfl
theorem Vals.eraseIdx : ∀ {xs : List V} {us : List Value} (i : Nat), Vals xs us → Vals (xs.eraseIdx i) (us.eraseIdx i)
 | _, _, _, .nil => .nil
 | _, _, 0, .cons _ t => t
 | _, _, i + 1, .cons r t => .cons r (Vals.eraseIdx i t)
theorem Vals.reverse {xs : List V} {us : List Value} (h : Vals xs us) : Vals xs.reverse us.reverse := by
 induction h with
 | nil => exact .nil
 | cons r t ih => rw [List.reverse_cons, List.reverse_cons]; exact Vals.append ih (.cons r .nil)
theorem Vals.rep {xs : List V} {us : List Value} (h : Vals xs us) : ∀ k : Nat, Vals (List.replicate k xs).flatten (List.replicate k us).flatten
 | 0 => .nil
 | k + 1 => by
  rw [List.replicate_succ, List.replicate_succ, List.flatten_cons, List.flatten_cons]
  exact Vals.append h (Vals.rep h k)
theorem j6 (its : List Value) : ∀ (k : Nat) (acc : List Value),
 List.foldl (fun x1 x2 => x1 ++ x2) acc.toArray (List.replicate k its.toArray) = (acc ++ (List.replicate k its).flatten).toArray
 | 0, acc => by simp
 | k + 1, acc => by
  have e : acc.toArray ++ its.toArray = (acc ++ its).toArray := by simp
  have e2 : (acc ++ its) ++ (List.replicate k its).flatten = acc ++ (List.replicate (k + 1) its).flatten := by
   rw [List.replicate_succ, List.flatten_cons, List.append_assoc]
  rw [← e2, ← j6 its k (acc ++ its), ← e, List.replicate_succ, List.foldl_cons]
section
variable {X : Cx} {pins : List (Addr × Obj)} {σ : St} {H : Hp} {s : Shared} {l b : Addr} {xs ys zs : List V}
theorem Inv.lset {its its' : List Value} {n : Nat} {f : Array Value → Array Value} {t' : Nat} (I : Inv X pins σ H s) (hH : H l = some (.lst xs))
 (e : s.heap.get? l = some { cls := .type "list", data := .seq its.toArray n }) (hf : f its.toArray = its'.toArray) (hv : Vals ys its') (hz : ys.length ≤ sizeLine) :
 Inv X pins σ (upd H l (.lst ys)) { s with heap := s.heap.update l (Obj.mapSeq f), toks := t' } := by
 have q := PySem.IsL.update e f
 rw [hf] at q
 refine I.write (x := l) (e := l) (by rw [hH]; exact trivial) (.inl rfl) (fun b' u hb hu => (Heap.get?_update_other s.heap (Obj.mapSeq f) (Ne.symm hb)).trans hu) ⟨_, q⟩ ?_
 exact ⟨hz, its', _, hv, q⟩
theorem Inv.lnew {its : List Value} {t' : Nat} (I : Inv X pins σ H s) (hv : Vals ys its) (hz : ys.length ≤ sizeLine) :
 Inv X pins σ (upd H s.heap.objs.size (.lst ys)) { s with heap := s.heap.push { cls := .type "list", data := .seq its.toArray }, toks := t' } :=
 I.laid (fun _ _ q => Heap.get?_push_of_some _ q) (Nat.le_refl _) ⟨hz, its, 0, hv, Heap.get?_push_size _ rfl⟩
theorem Inv.fresh (I : Inv X pins σ H s) : H s.heap.objs.size = none := I.hok.fresh (Nat.le_refl _)
theorem Inv.lstM (I : Inv X pins σ H s) (hH : H l = some (.lst xs)) : xs.length ≤ sizeLine ∧ ∃ (its : List Value) (n : Nat), Vals xs its ∧ xs.length = its.length ∧ s.heap.get? l = some { cls := .type "list", data := .seq its.toArray n } := by
 obtain ⟨z, its, n, r, e⟩ := I.hok l _ hH
 exact ⟨z, its, n, r, r.length, e⟩
theorem rW {n : Nat} (h : n ≤ sizeLine) : Builtin.List.listTooLong n = false := by
 unfold Builtin.List.listTooLong
 exact decide_eq_false (by omega)
end
section
variable {X : Cx}
def u9 : V → List V → Hp → VK → Prop := fun x vs H Q => ∃ l xs y, x = .ref l ∧ vs = [y] ∧ H l = some (.lst xs) ∧ xs.length < sizeLine ∧ Q .non (upd H l (.lst (xs ++ [y])))
theorem pf : MtM X "list.append" u9 := by
 intro pins s σ H x vs v us Q I rx rv h
 obtain ⟨l, xs, y, rfl, rfl, hH, hz, q⟩ := h
 cases rx
 obtain ⟨u, rfl, ru⟩ := rv.one
 obtain ⟨z, its, n, r, hl, e⟩ := I.lstM hH
 refine call_meets F.slot_list_append ⟨_, e, rfl⟩ F.entry_list_append (F.args_list_append_2 _ _) (PySem.list_append l its.toArray n u (by rw [List.size_toArray]; omega)) ⟨e, ?_⟩
 refine ⟨.non, _, I.lset (its' := its ++ [u]) hH e (by simp) (r.append (.cons ru .nil)) ?_, rfl, q⟩
 rw [List.length_append, List.length_singleton]
 omega
def Ds : R2 := fun x y H Q => ∃ l b xs zs, x = .ref l ∧ y = .ref b ∧ H l = some (.lst xs) ∧ H b = some (.lst zs) ∧ xs.length + zs.length ≤ sizeLine ∧ ∀ p, H p = none → Q (.ref p) (upd H p (.lst (xs ++ zs)))
theorem yh : OpR X (binaryOp .Add) Ds := by
 intro pins s σ H x y v u Q I rx ry h
 obtain ⟨l, b, xs, zs, rfl, rfl, hH, hB, hz, q⟩ := h
 cases rx
 cases ry
 obtain ⟨z, its, n, r, hl, e⟩ := I.lstM hH
 obtain ⟨z2, its2, n2, r2, hl2, e2⟩ := I.lstM hB
 refine PySem.P.add_list e e2 ?_ (by rw [List.size_toArray, List.size_toArray]; omega)
 have ea : its.toArray ++ its2.toArray = (its ++ its2).toArray := by simp
 rw [ea]
 exact ⟨.ref _, _, I.lnew (t' := s.toks) (r.append r2) (by rw [List.length_append]; omega), rfl, q _ I.fresh⟩
def Dt : R2 := fun x y H Q => ∃ l k xs, x = .ref l ∧ y = .int k ∧ H l = some (.lst xs) ∧ -(2 ^ 63) ≤ k ∧ k < 2 ^ 63 ∧ xs.length * k.toNat ≤ sizeLine ∧
 ∀ p, H p = none → Q (.ref p) (upd H p (.lst (List.replicate k.toNat xs).flatten))
theorem vb {α : Type} (xs : List α) (k : Nat) : (List.replicate k xs).flatten.length = k * xs.length := by
 induction k with
 | zero => simp
 | succ k ih => rw [List.replicate_succ, List.flatten_cons, List.length_append, ih, Nat.succ_mul, Nat.add_comm]
theorem op_rep : OpR X (binaryOp .Mult) Dt := by
 intro pins s σ H x y v u Q I rx ry h
 obtain ⟨l, k, xs, rfl, rfl, hH, h1, h2, hz, q⟩ := h
 cases rx
 obtain ⟨t, rfl⟩ := ry
 obtain ⟨z, its, n, r, hl, e⟩ := I.lstM hH
 have hlen : its.toArray.size * k.toNat ≤ sizeLine := by rw [List.size_toArray, ← hl]; exact hz
 have hcap : ¬ its.toArray.size * k.toNat > (2 ^ 63 - 1) / 8 := by
  have : (sizeLine : Nat) ≤ (2 ^ 63 - 1) / 8 := by decide
  omega
 have hfit : ¬ (!Builtin.List.listFitsIndex k) = true := by
  rw [fitsIndex_both h1 h2]
  exact Bool.false_ne_true
 have hlong : ¬ Builtin.List.listTooLong (its.toArray.size * k.toNat) = true := by
  rw [rW hlen]
  exact Bool.false_ne_true
 have hnew : List.foldl (fun x1 x2 => x1 ++ x2) #[] (List.replicate (if its.toArray.isEmpty = true then 0 else k.toNat) its.toArray) = (List.replicate k.toNat its).flatten.toArray := by
  have f0 : ∀ m : Nat, List.foldl (fun x1 x2 => x1 ++ x2) #[] (List.replicate m its.toArray) = (List.replicate m its).flatten.toArray := fun m => by
   have := j6 its m []
   rw [List.nil_append] at this
   exact this
  rw [f0]
  cases its with
  | nil => simp
  | cons a r' => rw [if_neg (by simp)]
 refine wpAny_binaryOp_repeat_ref (T := "list") (U := "int") (by decide) ⟨_, e, rfl⟩ (fun s' => typeIs_int s' k t) noFill_list_mul F.fills_int_mul F.slot_int_rmul repeat_list F.slot_int_index.lookup
  (call_meets F.slot_int_rmul (typeIs_int s k t) F.entry_int_rmul (F.args_int_rmul_2 _ _) (int___rmul___int_list k t l its.toArray n)
    ⟨e, rfl, ⟨_, e, rfl⟩, call_meets F.slot_list_mul ⟨_, e, rfl⟩ F.entry_list_mul (F.args_list_mul_2 _ _) (AutoListH.list___mul___list_int_3 l its.toArray n k t hfit hcap hlong) ⟨e, ?_⟩⟩)
 rw [hnew]
 exact ⟨.ref _, _, I.lnew (t' := s.toks) (r.rep k.toNat) (by rw [vb, Nat.mul_comm]; exact hz), rfl, q _ I.fresh⟩
end
section
variable {prog : Program} {w : World} {A : Around} {E : Value → Shared → Prop} {s : Shared}
end
section
variable {X : Cx}
end
end L2
namespace Att
open PySem PySem.W PySem.Calls PyProof.Rows
theorem ic {P : Params} {h : Heap} : ∀ (ns : List Int) (vs : List Value), WellAll P h vs (ns.map WData.int) → IntsAre vs ns := by
 intro ns
 induction ns with
 | nil =>
  intro vs w
  rw [List.map_nil] at w
  cases w
  exact .nil
 | cons n ns ih =>
  intro vs w
  rw [List.map_cons] at w
  cases w with
  | cons a b =>
   cases a
   exact .cons _ _ (ih _ b)
theorem ph {l : OpenLaw} {n : Nat} (hn : l.most = some n) {P : Params} {h : Heap} {args : List WData} {vals : List Value}
 (hpre : l.row.toRowW.claim.pre args = true) (hwl : WellAll P h vals args) :
 ∃ a vs ns, vals = [Value.ref a] ∧ args = [WData.list (ns.map WData.int)] ∧ h.get? a = some { cls := .type "list", data := .seq vs.toArray } ∧ IntsAre vs ns ∧ ns.length ≤ n := by
 have hsh : WShape.hasAll [] args [.list .int] = true := (pre_splitW hpre).1
 have hc : l.pre.holds [] { args := args } = true := (pre_splitW hpre).2
 obtain ⟨d, r, rfl, h1, h2⟩ := hasAllW_cons hsh
 obtain rfl := hasAllW_nil h2
 obtain ⟨xs, rfl, h3⟩ := hasW_list h1
 obtain ⟨ns, rfl⟩ := items_int h3
 have hlen : ns.length ≤ n := by
  unfold OpenLaw.pre at hc
  have h4 : (WTm.not (.lt (.lit (.int (n : Int))) (.len (.arg 0)))).holds [] { args := [.list (ns.map .int)] } = true := by
   have h4 := (holds_andW hc).1
   rw [hn] at h4
   exact h4
  have h5 := condW_of h4 (w_not (w_lt w_lit (w_len_list (w_arg rfl))))
  rw [List.length_map] at h5
  refine Nat.le_of_not_lt fun q => ?_
  have q' : (n : Int) < ((ns.length : Nat) : Int) := by omega
  first
   | (rw [decide_eq_true q'] at h5; exact absurd h5 (by decide))
   | (simp at h5; omega)
 cases hwl with
 | cons w1 w2 =>
  cases w2
  cases w1 with
  | list ho hall => exact ⟨_, _, ns, rfl, rfl, ho, ic ns _ hall, hlen⟩
theorem pk (l : OpenLaw) (args : List WData) : l.row.toRowW.claim.post args (.bool true) args = true :=
 postW_of (r := l.row.toRowW) (X := (true == true))
  (show WShape.has [] (.bool true) .bool = true by first | rfl | decide | simp [WShape.has, WShape.arms, WShape.armsAll])
  (show (WTm.eq .res (.lit (.bool true))).value [] { args := args, res := some (.bool true), after := args } = some (.bool (true == true)) from w_eq_bool (w_res rfl) w_lit) rfl
theorem attach_call {l : OpenLaw} {n : Nat} {q : Program} {loose : List Str} {XP : (Str → Option Value) → Heap → Prop} {YP : World → Heap → Prop} {d : DefRec}
 (hn : l.most = some n) (hdf : d.params.defaults = [])
 (call : ∀ (w : World) (s₀ s₁ : Shared) (mg mb : Str → Option Value) (fa : Addr) (o : Obj) (pm cd doc : Value) (a : Addr) (vs : List Value) (ns : List Int),
   Ground q loose [] XP w s₀ mg mb s₁.heap → YP w s₁.heap →
   s₁.heap.get? fa = some o → o.data = .func (docDef d.name d.params d.body d.scope pm cd doc) → s₁.heap.CodeRec cd d.name → mg d.name = some (.ref fa) →
   s₁.heap.get? a = some { cls := .type "list", data := .seq vs.toArray } → IntsAre vs ns → ns.length ≤ n → s₁.gens = #[] →
   codeAny (model l.prog w) callerA (.call (.ref fa) ⟨[.ref a], []⟩) (fun r s' => r = .ok (.ret (.bool true)) ∧ OldK s₁.heap s'.heap ∧ s'.os = s₁.os ∧ AllBare s'.gens) s₁) :
 WalkO q loose XP YP l.row.toRowW d [] (fun f vs => PySem.call f vs) := by
 intro w s₀ s₁ mg mb G Y fa o pm cd doc dV kV ho hd hcd hD hmg hg args vals as hpre hlay hrd hwl hlo
 obtain rfl : dV = .none := Dflts.none hD hdf
 obtain rfl : kV = .none := Dflts.noKw hD
 obtain ⟨a, vs, ns, rfl, rfl, hobj, hints, hlen⟩ := ph hn hpre hwl
 refine enter_call (codeAny_mono (call w s₀ s₁ mg mb fa o pm cd doc a vs ns G Y ho (fd_plain hd) hcd hmg hobj hints hlen hg) fun r s' hq => ?_)
 obtain ⟨rfl, h2, h3, h4⟩ := hq
 exact ⟨.inl ⟨.bool true, .bool true, [], rfl, fun _ => rfl, .bool true, pk l _, fun _ => ⟨List.Pairwise.nil, fun _ hm => (nomatch hm)⟩⟩, h2, h3, h4⟩
section
variable {prog : Program} {w : World} {A : Around} {E : Value → Shared → Prop} {s : Shared} {K : Frag}
def Du (h : Heap) (L d : Addr) : List (Addr × Obj) := (List.range h.objs.size).filterMap fun a => if a = L ∨ a = d then none else (h.get? a).map fun o => (a, o)
end
end Att
namespace L2
open PySem PySem.Spec PyProof.Rows
theorem dZ : ∀ {vs : List Value} {ns : List Int}, IntsAre vs ns → Vals (ns.map V.int) vs
 | _, _, .nil => .nil
 | _, _, .cons n t h => .cons ⟨t, rfl⟩ (dZ h)
def BC (H : Hp) : Prop := ∀ b, H b = none ∨ ∃ o xs, H b = some (.frz o (.lst xs))
theorem rX {P : Program} {w : World} {K : PySem.W.Frag} {mg mb : Str → Option Value} {CX : CXT} {k : Nat} {fa a : Addr} {fd : FuncData} {x : Str} {sp : Sp} {s₁ : Shared} {vs : List Value} {ns : List Int}
 (KX : K.In s₁.heap) (hns : s₁.heap.Ns mainGlobals mg) (hb : s₁.heap.Ns builtinsNs mb) (hbb : ∀ x : Str, x ≠ "__name__" → mb x = bootBuiltins x) (hlim : s₁.heap.NoLimit) (hg : s₁.gens = #[])
 (ha : s₁.heap.get? a = some { cls := .type "list", data := .seq vs.toArray }) (hi : IntsAre vs ns) (hl : ns.length ≤ sizeLine) (hr : Room k callerA)
 (F : ∀ base : Heap, K.In base → base.Ns mainGlobals mg → FnOk P w K mg base CX k fa fd [x] sp) (hbind : ∀ (s : Shared) (u : Value), BindsTo s fd ⟨[u], []⟩ [(x, u)])
 (hsp : ∀ H : Hp, BC H → SqL K H a (ns.map V.int) → sp [.ref a] H (fun v _ => v = .bl true) fun _ _ _ => False)
 (hCX : ∀ H e s', CX [] H s₁ (fun _ _ _ => False) e s' → False) :
 codeAny (model P w) callerA (.call (.ref fa) ⟨[.ref a], []⟩) (fun r s' => r = .ok (.ret (.bool true)) ∧ OldK s₁.heap s'.heap ∧ s'.os = s₁.os ∧ AllBare s'.gens) s₁ := by
 have rv := dZ hi
 have lenV := hi.length
 have core : ∀ H : Hp, BC H → SqL K H a (ns.map V.int) → HOk P w H s₁.heap → (∀ b, H b ≠ none → b = a) → (H a ≠ none → K.lookup a = none) →
  codeAny (model P w) callerA (.call (.ref fa) ⟨[.ref a], []⟩) (fun r s' => r = .ok (.ret (.bool true)) ∧ OldK s₁.heap s'.heap ∧ s'.os = s₁.os ∧ AllBare s'.gens) s₁ := by
  intro H hO hS hok hA hK
  have base_of : ∀ {b : Addr} {o : Obj}, s₁.heap.get? b = some o → H b = none → (rO s₁.heap H).get? b = some o := fun e n => rP e n
  have noA : ∀ {b : Addr} {o : Obj} {es : Array DictEntry} {ep : Nat}, s₁.heap.get? b = some o → o.data = .dict es ep → H b = none := fun {b o es ep} e d => by
   cases q : H b with
   | none => rfl
   | some u =>
    have e' : b = a := hA b (by rw [q]; simp)
    subst e'
    rw [ha] at e; cases e
    have d' : Data.seq vs.toArray _ = Data.dict es ep := d
    cases d'
  have nsK : ∀ {b : Addr} {m : Str → Option Value}, s₁.heap.Ns b m → (rO s₁.heap H).Ns b m := fun {b m} ⟨o, es, ep, e, d, r⟩ => ⟨o, es, ep, base_of e (noA e d), d, r⟩
  have hKb : K.In (rO s₁.heap H) := fun b o e => base_of (KX b o e) (by
   cases q : H b with
   | none => rfl
   | some u =>
    have e' : b = a := hA b (by rw [q]; simp)
    subst e'
    rw [hK (by rw [q]; simp)] at e; cases e)
  have hM : Mod K mg (rO s₁.heap H) := ⟨hKb, nsK hns, ⟨mb, nsK hb, hbb⟩, let ⟨mc, h1, h2⟩ := hlim; ⟨mc, nsK h1, h2⟩⟩
  have e0 : Env0 P w K mg (rO s₁.heap H) callerA [] s₁ H := ⟨rfl, hM, fun b o e => uQ e, Nat.le_of_eq (oI _ _), trivial, fun b hb => absurd (show b ∈ ([] : List Addr) from hb) (by simp), hok, .of_eq hg⟩
  refine codeAny_mono ((F _ hKb (nsK hns)).run callerA [] s₁ H ⟨[.ref a], []⟩ [.ref a] [.ref a] _ _ hr e0 (hbind s₁ (.ref a)) (.cons rfl .nil) (hsp H hO hS)) fun r s' h => ?_
  cases r with
  | error e => exact (hCX H e s' h).elim
  | ok fl =>
   cases fl with
   | next => exact False.elim h
   | brk => exact False.elim h
   | cont => exact False.elim h
   | ret u =>
    obtain ⟨v, H', os, bare, un, hok', r', q⟩ := h
    have q' : v = .bl true := q
    subst q'
    obtain rfl : u = Value.bool true := r'
    refine ⟨rfl, OldK.of_keep fun b o e => ?_, os, bare⟩
    cases q : H b with
    | none => exact un.keep b o e q (by intro z; exact absurd (show b ∈ ([] : List Addr) from z) (by simp)) (by simp)
    | some u =>
     rcases hO b with z | ⟨ob, xs, z⟩
     · rw [q] at z; cases z
     · have z2 := un.frzs b ob _ z
       obtain ⟨e1, _⟩ := hok b _ z
       obtain ⟨e2, _⟩ := hok' b _ z2
       rw [e] at e1; cases e1
       exact e2
 cases hk : K.lookup a with
 | some o =>
  have e := KX a o hk
  rw [ha] at e
  cases e
  refine core (fun _ => none) (fun _ => .inl rfl) (.inr ⟨_, vs.toArray, _, hk, rfl, rfl, rfl, by rw [List.size_toArray, lenV]; exact hl, by simpa using rv⟩) (fun b u z => by have z' : (none : Option HO) = some u := z; cases z') (fun b z => absurd rfl z) fun z => absurd rfl z
 | none =>
  refine core (fun b => if b = a then some (.frz { cls := .type "list", data := .seq vs.toArray } (.lst (ns.map V.int))) else none) (fun b => ?_) (.inl (.inr ⟨{ cls := .type "list", data := .seq vs.toArray }, if_pos rfl⟩)) (fun b u z => ?_) (fun b z => ?_) fun _ => hk
  · by_cases hb : b = a
    · exact .inr ⟨_, _, if_pos hb⟩
    · exact .inl (if_neg hb)
  · by_cases hb : b = a
    · have z' := (if_pos hb).symm.trans z
      cases z'
      subst hb
      exact ⟨ha, by rw [List.length_map]; exact hl, vs, _, rv, ha⟩
    · have z' := (if_neg hb).symm.trans z
      cases z'
  · by_cases hb : b = a
    · exact hb
    · exact absurd (if_neg hb) z
theorem walk_of {l : PySem.W.OpenLaw} {n k : Nat} {q : Program} {loose : List Str} {XP : (Str → Option Value) → Heap → Prop} {YP : World → Heap → Prop} {d : DefRec} {K : Params → PySem.W.Frag} {CX : World → CXT} {sp : World → Sp} {x : Str}
 (hn : l.most = some n) (hn2 : n ≤ sizeLine) (hdf : d.params.defaults = []) (hr : Room k callerA)
 (hY : ∀ (w : World) (h : Heap), YP w h → (K w.params).In h)
 (F : ∀ (w : World) (mg : Str → Option Value) (fa : Addr) (h : Heap), (K w.params).In h → h.Ns mainGlobals mg → mg d.name = some (.ref fa) →
   ∃ fd : FuncData, (∀ (s : Shared) (u : Value), BindsTo s fd ⟨[u], []⟩ [(x, u)]) ∧
    ∀ base : Heap, (K w.params).In base → base.Ns mainGlobals mg → FnOk l.prog w (K w.params) mg base (CX w) k fa fd [x] (sp w))
 (hsp : ∀ (w : World) (H : Hp) (a : Addr) (ns : List Int), ns.length ≤ n → BC H → SqL (K w.params) H a (ns.map V.int) → sp w [.ref a] H (fun v _ => v = .bl true) fun _ _ _ => False)
 (hCX : ∀ (w : World) (H : Hp) (s : Shared) (e : Value) (s' : Shared), CX w [] H s (fun _ _ _ => False) e s' → False) :
 PySem.W.WalkO q loose XP YP l.row.toRowW d [] (fun f vs => PySem.call f vs) := by
 refine Att.attach_call hn hdf fun w s₀ s₁ mg mb fa o pm cd doc a vs ns G Y ho hd hcd hmg hobj hints hlen hg => ?_
 have KX := hY w _ Y
 obtain ⟨fd, hb, hF⟩ := F w mg fa _ KX G.T.g hmg
 exact rX KX G.T.g G.T.b G.T.builtins G.T.nolimit hg hobj hints (Nat.le_trans hlen hn2) hr hF hb (fun H hO hS => hsp w H a ns hlen hO hS) fun H e s' => hCX w H s₁ e s'
def gm (s : Stmt) : Arguments := match s with
 | .FunctionDef _ a _ _ _ _ _ _ _ _ => a
 | _ => { posonlyargs := [], args := [], vararg := none, kwonlyargs := [], kw_defaults := [], kwarg := none, defaults := [] }
def cq (s : Stmt) : List Stmt := match s with
 | .FunctionDef _ _ b _ _ _ _ _ _ _ => b
 | _ => []
def ar (s : Stmt) : Scope := match s with
 | .FunctionDef _ _ _ _ _ _ sc _ _ _ => sc
 | _ => { kind := .function, names := [], isGenerator := false, isCoroutine := false }
abbrev CX0 : CXT := fun _ _ _ _ _ _ => False
abbrev E0 : XK := fun _ _ _ => False
theorem BD {X : Cx} : mI CX0 X E0 := fun _ _ _ _ _ _ _ h => h.elim
structure Fun (K : PySem.W.Frag) (x qual : Str) (st : Stmt) (f : Addr) (fd : FuncData) : Prop where
 ex : ∃ (oc : Value) (od : Option Addr) (kV doc pm : Value) (an : Option Addr) (cdv ct : Value) (osl : Array (Option Value)),
  fd = PySem.W.fnOf x qual (gm st) (cq st) (ar st) .none kV doc pm an cdv ct ∧ K.lookup f = some ⟨oc, od, .func fd, osl⟩ ∧ PySem.W.codeIn K cdv qual = true
 kp : PySem.W.keepIn K (.ref f) = true
section
variable {P : Program} {w : World} {K : PySem.W.Frag} {mg : Str → Option Value} {base : Heap}
theorem Fun.ok {x qual : Str} {st : Stmt} {f : Addr} {fd : FuncData} {N ps : List Str} {k : Nat} {sp : Sp} (F : Fun K x qual st f fd) (S : dW N ps (ar st)) (len : ∀ vs H Q E, sp vs H Q E → vs.length = ps.length)
 (hbody : ∀ (cdv : Value) (A : Around) (outer : List Env) (s : Shared) (H : Hp) (vs : List V) (Q : VK) (E : XK), Room k (A.deeper (envOfC qual (ar st) s.heap.objs.size f cdv)) → sp vs H Q E →
   ∃ t, PSs (mJ CX0 P w K mg base N qual (ar st) f cdv A outer s H E).nox (cq st) t ∧ t { nx := fun _ H' => Q .non H', rt := Q } (start N vs) H) : FnOk P w K mg base CX0 (k + 1) f fd ps sp := by
 obtain ⟨oc, od, kV, doc, pm, an, cdv, ct, osl, rfl, lk, hcd⟩ := F.ex
 refine ya lk hcd S len fun A outer s H vs Q E hr hsp => ?_
 obtain ⟨t, h, q⟩ := hbody cdv A outer s H vs Q E hr hsp
 exact ⟨t, h.nox, q⟩
theorem Fun.binds {x qual : Str} {st : Stmt} {f : Addr} {fd : FuncData} {ps : List Str} (F : Fun K x qual st f fd)
 (h : ∀ (kV doc pm : Value) (an : Option Addr) (cdv ct : Value) (us : List Value), us.length = ps.length → bindArgs (PySem.W.fnOf x qual (gm st) (cq st) (ar st) .none kV doc pm an cdv ct) ⟨us, []⟩ = pure (ps.zip us)) : Binds K fd ps [] := by
 obtain ⟨oc, od, kV, doc, pm, an, cdv, ct, osl, rfl, lk, hcd⟩ := F.ex
 exact .all (h kV doc pm an cdv ct)
theorem yi {x qual : Str} {st : Stmt} {f : Addr} {oc : Value} {od an : Option Addr} {osl : Array (Option Value)} {kV doc pm cdv ct : Value} (l : K.lookup f = some ⟨oc, od, .func (PySem.W.fnOf x qual (gm st) (cq st) (ar st) .none kV doc pm an cdv ct), osl⟩)
 (c : PySem.W.codeIn K cdv qual = true) (k : PySem.W.keepIn K (.ref f) = true) : Fun K x qual st f (PySem.W.fnOf x qual (gm st) (cq st) (ar st) .none kV doc pm an cdv ct) := ⟨⟨oc, od, kV, doc, pm, an, cdv, ct, osl, rfl, l, c⟩, k⟩
end
section
variable {X : Cx}
end
theorem ub {A B : Prop} (h : B) : if false = true then A else B := by
 rw [if_neg Bool.false_ne_true]
 exact h
theorem uc {A B : Prop} (h : A) : if true = true then A else B := by
 rw [if_pos rfl]
 exact h
def Same (H H' : Hp) : Prop := ∀ b o, H b = some o → H' b = some o
theorem Same.refl (H : Hp) : Same H H := fun _ _ h => h
theorem Same.trans {H H1 H2 : Hp} (a : Same H H1) (b : Same H1 H2) : Same H H2 := fun c o h => b c o (a c o h)
theorem Same.free {H H' : Hp} (e : Same H H') {l : Addr} (h : H' l = Option.none) : H l = Option.none := by
 cases q : H l with
 | none => rfl
 | some o =>
  rw [e l o q] at h
  cases h
theorem Same.seq {K : PySem.W.Frag} {H H' : Hp} {a : Addr} {xs : List V} (e : Same H H') (h : SqL K H a xs) : SqL K H' a xs := by
 rcases h with (h | ⟨o, h⟩) | h
 · exact .inl (.inl (e _ _ h))
 · exact .inl (.inr ⟨o, e _ _ h⟩)
 · exact .inr h
end L2
namespace FD
open PySem PySem.Spec PyProof.Rows L2
inductive Dv where
 | non | bl (b : Bool) | int (i : Int) | str (x : Str) | tup (xs : List Dv) | lst (xs : List Dv) | scr (ns : List Int) | exn (c : Nat)
def xnm : Nat → Str
 | 0 => "NoName" | 1 => "NoTable" | 2 => "NoPath" | 3 => "NoAsk" | 4 => "NoNote" | 5 => "NoJar" | 6 => "NoNumber" | 7 => "NoText" | 8 => "NoStep" | _ => "JarError"
mutual
def Rep (K : PySem.W.Frag) (H : Hp) : Dv → V → Prop
 | .non, v => v = .non
 | .bl b, v => v = .bl b
 | .int i, v => v = .int i
 | .str x, v => v = .str x
 | .tup ds, v => ∃ a xs, v = .ref a ∧ H a = some (.tup xs) ∧ Reps K H ds xs
 | .lst ds, v => ∃ a xs, v = .ref a ∧ H a = some (.lst xs) ∧ Reps K H ds xs
 | .scr ns, v => ∃ a, v = .ref a ∧ SqL K H a (ns.map V.int)
 | .exn c, v => ∃ a o u C, v = .ref a ∧ H a = some (.frz o u) ∧ o.cls = .ref C ∧ PySem.W.nsIn K mainGlobals (xnm c) = some (some (.ref C))
def Reps (K : PySem.W.Frag) (H : Hp) : List Dv → List V → Prop
 | [], vs => vs = []
 | d :: ds, vs => ∃ v us, vs = v :: us ∧ Rep K H d v ∧ Reps K H ds us
end
section
variable {K : PySem.W.Frag} {H H' : Hp}
mutual
theorem Rep.mono (e : Same H H') : ∀ (d : Dv) (v : V), Rep K H d v → Rep K H' d v
 | .non, _, h => h
 | .bl _, _, h => h
 | .int _, _, h => h
 | .str _, _, h => h
 | .tup ds, v, h => by
  obtain ⟨a, xs, r, h, q⟩ : ∃ a xs, v = .ref a ∧ H a = some (.tup xs) ∧ Reps K H ds xs := h
  exact ⟨a, xs, r, e _ _ h, Reps.mono e ds xs q⟩
 | .lst ds, v, h => by
  obtain ⟨a, xs, r, h, q⟩ : ∃ a xs, v = .ref a ∧ H a = some (.lst xs) ∧ Reps K H ds xs := h
  exact ⟨a, xs, r, e _ _ h, Reps.mono e ds xs q⟩
 | .scr ns, v, h => by
  obtain ⟨a, r, h⟩ : ∃ a, v = .ref a ∧ SqL K H a (ns.map V.int) := h
  exact ⟨a, r, e.seq h⟩
 | .exn c, v, h => by
  obtain ⟨a, o, u, C, r, h, q⟩ : ∃ a o u C, v = .ref a ∧ H a = some (.frz o u) ∧ o.cls = .ref C ∧ PySem.W.nsIn K mainGlobals (xnm c) = some (some (.ref C)) := h
  exact ⟨a, o, u, C, r, e _ _ h, q⟩
theorem Reps.mono (e : Same H H') : ∀ (ds : List Dv) (vs : List V), Reps K H ds vs → Reps K H' ds vs
 | [], _, h => h
 | d :: ds, vs, h => by
  obtain ⟨v, us, r, h, q⟩ : ∃ v us, vs = v :: us ∧ Rep K H d v ∧ Reps K H ds us := h
  exact ⟨v, us, r, Rep.mono e d v h, Reps.mono e ds us q⟩
end
theorem Reps.nil : Reps K H [] [] := rfl
theorem Reps.cons {d ds v vs} (h : Rep K H d v) (t : Reps K H ds vs) : Reps K H (d :: ds) (v :: vs) := ⟨v, vs, rfl, h, t⟩
theorem Reps.length : ∀ {ds : List Dv} {vs : List V}, Reps K H ds vs → vs.length = ds.length
 | [], vs, h => by cases (show vs = [] from h); rfl
 | d :: ds, vs, h => by
  obtain ⟨v, us, r, _, q⟩ : ∃ v us, vs = v :: us ∧ Rep K H d v ∧ Reps K H ds us := h
  subst r
  show us.length + 1 = ds.length + 1
  rw [Reps.length q]
theorem Reps.get : ∀ {ds : List Dv} {vs : List V} {i : Nat} {v : V}, Reps K H ds vs → vs[i]? = some v → ∃ d, ds[i]? = some d ∧ Rep K H d v
 | [], vs, i, v, h, e => by cases (show vs = [] from h); simp at e
 | d :: ds, vs, i, v, h, e => by
  obtain ⟨v', us, r, h', q⟩ : ∃ v us, vs = v :: us ∧ Rep K H d v ∧ Reps K H ds us := h
  subst r
  cases i with
  | zero => simp at e; subst e; exact ⟨d, rfl, h'⟩
  | succ i =>
   obtain ⟨d', e', r'⟩ := Reps.get (i := i) q (by simpa using e)
   exact ⟨d', by simpa using e', r'⟩
theorem Reps.get' : ∀ {ds : List Dv} {vs : List V} {i : Nat} {d : Dv}, Reps K H ds vs → ds[i]? = some d → ∃ v, vs[i]? = some v ∧ Rep K H d v
 | [], vs, i, v, h, e => by simp at e
 | d :: ds, vs, i, d0, h, e => by
  obtain ⟨v', us, r, h', q⟩ : ∃ v us, vs = v :: us ∧ Rep K H d v ∧ Reps K H ds us := h
  subst r
  cases i with
  | zero => simp at e; subst e; exact ⟨v', rfl, h'⟩
  | succ i =>
   obtain ⟨d', e', r'⟩ := Reps.get' (i := i) q (by simpa using e)
   exact ⟨d', by simpa using e', r'⟩
theorem Reps.append : ∀ {ds es : List Dv} {vs us : List V}, Reps K H ds vs → Reps K H es us → Reps K H (ds ++ es) (vs ++ us)
 | [], es, vs, us, h, q => by cases (show vs = [] from h); exact q
 | d :: ds, es, vs, us, h, q => by
  obtain ⟨v', vs', r, h', t⟩ : ∃ v us, vs = v :: us ∧ Rep K H d v ∧ Reps K H ds us := h
  subst r
  exact ⟨v', vs' ++ us, rfl, h', Reps.append t q⟩
theorem Reps.take : ∀ {ds : List Dv} {vs : List V} (n : Nat), Reps K H ds vs → Reps K H (ds.take n) (vs.take n)
 | ds, vs, 0, _ => by simp [Reps]
 | [], vs, n + 1, h => by cases (show vs = [] from h); exact rfl
 | d :: ds, vs, n + 1, h => by
  obtain ⟨v', vs', r, h', t⟩ : ∃ v us, vs = v :: us ∧ Rep K H d v ∧ Reps K H ds us := h
  subst r
  exact ⟨v', vs'.take n, rfl, h', Reps.take n t⟩
theorem Reps.drop : ∀ {ds : List Dv} {vs : List V} (n : Nat), Reps K H ds vs → Reps K H (ds.drop n) (vs.drop n)
 | ds, vs, 0, h => h
 | [], vs, n + 1, h => by cases (show vs = [] from h); exact rfl
 | d :: ds, vs, n + 1, h => by
  obtain ⟨v', vs', r, h', t⟩ : ∃ v us, vs = v :: us ∧ Rep K H d v ∧ Reps K H ds us := h
  subst r
  exact Reps.drop n t
theorem Rep.lstE {ds : List Dv} {v : V} (h : Rep K H (.lst ds) v) : ∃ a xs, v = .ref a ∧ H a = some (.lst xs) ∧ Reps K H ds xs := h
theorem Rep.tupE {ds : List Dv} {v : V} (h : Rep K H (.tup ds) v) : ∃ a xs, v = .ref a ∧ H a = some (.tup xs) ∧ Reps K H ds xs := h
theorem Rep.exnE {c : Nat} {v : V} (h : Rep K H (.exn c) v) : ∃ a o u C, v = .ref a ∧ H a = some (.frz o u) ∧ o.cls = .ref C ∧ PySem.W.nsIn K mainGlobals (xnm c) = some (some (.ref C)) := h
theorem Rep.scrE {ns : List Int} {v : V} (h : Rep K H (.scr ns) v) : ∃ a, v = .ref a ∧ SqL K H a (ns.map V.int) := h
end
theorem aF {H : Hp} {p : Addr} (h : H p = none) (o : HO) : Same H (upd H p o) := fun b u q => by rw [az (aB q h)]; exact q
abbrev Ev := List (Option Dv)
structure Envs (K : PySem.W.Frag) (H : Hp) (σ : L2.St) (ρ : Ev) : Prop where
 len : σ.length = ρ.length
 at' : ∀ (i : Nat) (d : Dv), ρ[i]? = some (some d) → ∃ v, σ[i]? = some (some v) ∧ Rep K H d v
theorem Envs.mono {K : PySem.W.Frag} {H H' : Hp} {σ : L2.St} {ρ : Ev} (E : Envs K H σ ρ) (e : Same H H') : Envs K H' σ ρ :=
 ⟨E.len, fun i d h => let ⟨v, h1, h2⟩ := E.at' i d h; ⟨v, h1, Rep.mono e d v h2⟩⟩
theorem Envs.set {K : PySem.W.Frag} {H : Hp} {σ : L2.St} {ρ : Ev} {i : Nat} {d : Dv} {v : V} (E : Envs K H σ ρ) (r : Rep K H d v) : Envs K H (σ.set i (some v)) (ρ.set i (some d)) := by
 refine ⟨by rw [List.length_set, List.length_set]; exact E.len, fun j d' h => ?_⟩
 by_cases hj : i = j
 · subst hj
   by_cases hl : i < ρ.length
   · rw [List.getElem?_set_self hl] at h
     cases h
     exact ⟨v, by rw [List.getElem?_set_self (by rw [E.len]; exact hl)], r⟩
   · rw [List.getElem?_eq_none (by rw [List.length_set]; omega)] at h
     cases h
 · rw [List.getElem?_set_ne hj] at h
   rw [List.getElem?_set_ne hj]
   exact E.at' j d' h
def fgt (js : List Nat) (ρ : Ev) : Ev := js.foldl (fun r j => r.set j none) ρ
theorem Envs.fgt1 {K : PySem.W.Frag} {H : Hp} {σ : L2.St} {ρ : Ev} (j : Nat) (E : Envs K H σ ρ) : Envs K H σ (ρ.set j none) := by
 refine ⟨by rw [List.length_set]; exact E.len, fun i d h => ?_⟩
 by_cases hj : j = i
 · subst hj
   by_cases hl : j < ρ.length
   · rw [List.getElem?_set_self hl] at h
     cases h
   · rw [List.getElem?_eq_none (by rw [List.length_set]; omega)] at h
     cases h
 · rw [List.getElem?_set_ne hj] at h
   exact E.at' i d h
theorem Envs.fgt {K : PySem.W.Frag} {H : Hp} {σ : L2.St} : ∀ (js : List Nat) {ρ : Ev}, Envs K H σ ρ → Envs K H σ (fgt js ρ)
 | [], _, E => E
 | j :: js, _, E => Envs.fgt js (E.fgt1 j)
inductive Rs (α : Type) where
 | ok (a : α)
 | exc (c : Nat)
inductive Fl where
 | nx (ρ : Ev)
 | rt (d : Dv)
 | exc (c : Nat)
def Fly (N : Addr → Prop) (H : Hp) (e : Addr) (cls : Value) (h : Heap) : Prop := H e = none ∧ N e ∧ ∃ oe vs a0, h.get? e = some oe ∧ oe.cls = cls ∧ oe.data = .fields vs ∧ vs[0]? = some a0 ∧
 (vs[1]? = some .none ∨ ∃ T oT ts, vs[1]? = some (.ref T) ∧ T ≠ e ∧ H T = none ∧ N T ∧ h.get? T = some oT ∧ oT.data = .fields ts ∧ ts[3]? = some .none)
def BE (X : Cx) (a : Addr) : Prop := X.s₀.heap.get? a = none ∧ ∀ p ∈ X.pn, p.1 ≠ a
def BF (X : Cx) (H : Hp) (c : Nat) (e : Value) (s : Shared) : Prop := ∃ a C, e = .ref a ∧ PySem.W.nsIn X.K mainGlobals (xnm c) = some (some (.ref C)) ∧ Fly (BE X) H a (.ref C) s.heap
def XW (X : Cx) (c : Nat) (H : Hp) : Prop := ∀ pins σ H' s e, Same H H' → Inv X pins σ H' s → BF X H' c e s → X.xe e s
theorem XW.mono {X : Cx} {c : Nat} {H H' : Hp} (h : XW X c H) (e : Same H H') : XW X c H' := fun pins σ H1 s x e1 I q => h pins σ H1 s x (e.trans e1) I q
def Out (X : Cx) (H : Hp) (o : Option (Rs Dv)) (Q : VK) : Prop := match o with
 | none => False
 | some (.exc c) => XW X c H
 | some (.ok d) => ∀ v H', Same H H' → Rep X.K H' d v → Q v H'
def OutB (X : Cx) (H : Hp) (o : Option (Rs Bool)) (Q : Bool → Hp → Prop) : Prop := match o with
 | none => False
 | some (.exc c) => XW X c H
 | some (.ok d) => ∀ H', Same H H' → Q d H'
def OutA (X : Cx) (H : Hp) (o : Option (Rs (List Dv))) (Q : List V → Hp → Prop) : Prop := match o with
 | none => False
 | some (.exc c) => XW X c H
 | some (.ok ds) => ∀ vs H', Same H H' → Reps X.K H' ds vs → Q vs H'
def OutS (X : Cx) (H : Hp) (o : Option Fl) (D : oG) : Prop := match o with
 | none => False
 | some (.exc c) => XW X c H
 | some (.rt d) => ∀ v H', Same H H' → Rep X.K H' d v → D.rt v H'
 | some (.nx ρ) => ∀ σ H', Same H H' → Envs X.K H' σ ρ → D.nx σ H'
def bnd {α β : Type} (o : Option (Rs α)) (k : α → Option (Rs β)) : Option (Rs β) := match o with
 | none => none
 | some (.exc c) => some (.exc c)
 | some (.ok a) => k a
def bI {α : Type} (o : Option (Rs α)) (k : α → Option Fl) : Option Fl := match o with
 | none => none
 | some (.exc c) => some (.exc c)
 | some (.ok a) => k a
def sq (o : Option Fl) (k : Ev → Option Fl) : Option Fl := match o with
 | some (.nx ρ) => k ρ
 | o => o
section
variable {X : Cx} {H H' : Hp} {Q : VK} {QB : Bool → Hp → Prop} {QA : List V → Hp → Prop} {D : oG}
theorem Out.mono (e : Same H H') : ∀ {o : Option (Rs Dv)}, Out X H o Q → Out X H' o Q
 | none, h => h
 | some (.exc _), h => XW.mono h e
 | some (.ok _), h => fun v H1 e1 r => h v H1 (e.trans e1) r
theorem OutB.mono (e : Same H H') : ∀ {o : Option (Rs Bool)}, OutB X H o QB → OutB X H' o QB
 | none, h => h
 | some (.exc _), h => XW.mono h e
 | some (.ok _), h => fun H1 e1 => h H1 (e.trans e1)
theorem OutA.mono (e : Same H H') : ∀ {o : Option (Rs (List Dv))}, OutA X H o QA → OutA X H' o QA
 | none, h => h
 | some (.exc _), h => XW.mono h e
 | some (.ok _), h => fun v H1 e1 r => h v H1 (e.trans e1) r
theorem OutS.mono (e : Same H H') : ∀ {o : Option Fl}, OutS X H o D → OutS X H' o D
 | none, h => h
 | some (.exc _), h => XW.mono h e
 | some (.rt _), h => fun v H1 e1 r => h v H1 (e.trans e1) r
 | some (.nx _), h => fun v H1 e1 r => h v H1 (e.trans e1) r
theorem Out.bind {o : Option (Rs Dv)} {k : Dv → Option (Rs Dv)} {P : VK} (h : Out X H (bnd o k) Q) (hp : ∀ d v H', Same H H' → Rep X.K H' d v → Out X H' (k d) Q → P v H') : Out X H o P := by
 match o, h with
 | some (.exc _), h => exact h
 | some (.ok d), h => exact fun v H1 e r => hp d v H1 e r (Out.mono e h)
theorem Out.bindB {o : Option (Rs Dv)} {k : Dv → Option (Rs Bool)} {P : VK} (h : OutB X H (bnd o k) QB) (hp : ∀ d v H', Same H H' → Rep X.K H' d v → OutB X H' (k d) QB → P v H') : Out X H o P := by
 match o, h with
 | some (.exc _), h => exact h
 | some (.ok d), h => exact fun v H1 e r => hp d v H1 e r (OutB.mono e h)
theorem Out.bindA {o : Option (Rs Dv)} {k : Dv → Option (Rs (List Dv))} {P : VK} (h : OutA X H (bnd o k) QA) (hp : ∀ d v H', Same H H' → Rep X.K H' d v → OutA X H' (k d) QA → P v H') : Out X H o P := by
 match o, h with
 | some (.exc _), h => exact h
 | some (.ok d), h => exact fun v H1 e r => hp d v H1 e r (OutA.mono e h)
theorem Out.bindS {o : Option (Rs Dv)} {k : Dv → Option Fl} {P : VK} (h : OutS X H (bI o k) D) (hp : ∀ d v H', Same H H' → Rep X.K H' d v → OutS X H' (k d) D → P v H') : Out X H o P := by
 match o, h with
 | some (.exc _), h => exact h
 | some (.ok d), h => exact fun v H1 e r => hp d v H1 e r (OutS.mono e h)
theorem OutB.bind {o : Option (Rs Bool)} {k : Bool → Option (Rs Dv)} {P : Bool → Hp → Prop} (h : Out X H (bnd o k) Q) (hp : ∀ b H', Same H H' → Out X H' (k b) Q → P b H') : OutB X H o P := by
 match o, h with
 | some (.exc _), h => exact h
 | some (.ok d), h => exact fun H1 e => hp d H1 e (Out.mono e h)
theorem OutB.bindB {o : Option (Rs Bool)} {k : Bool → Option (Rs Bool)} {P : Bool → Hp → Prop} (h : OutB X H (bnd o k) QB) (hp : ∀ b H', Same H H' → OutB X H' (k b) QB → P b H') : OutB X H o P := by
 match o, h with
 | some (.exc _), h => exact h
 | some (.ok d), h => exact fun H1 e => hp d H1 e (OutB.mono e h)
theorem OutB.bindS {o : Option (Rs Bool)} {k : Bool → Option Fl} {P : Bool → Hp → Prop} (h : OutS X H (bI o k) D) (hp : ∀ b H', Same H H' → OutS X H' (k b) D → P b H') : OutB X H o P := by
 match o, h with
 | some (.exc _), h => exact h
 | some (.ok d), h => exact fun H1 e => hp d H1 e (OutS.mono e h)
theorem OutA.bind {o : Option (Rs (List Dv))} {k : List Dv → Option (Rs Dv)} {P : List V → Hp → Prop} (h : Out X H (bnd o k) Q) (hp : ∀ ds vs H', Same H H' → Reps X.K H' ds vs → Out X H' (k ds) Q → P vs H') : OutA X H o P := by
 match o, h with
 | some (.exc _), h => exact h
 | some (.ok d), h => exact fun v H1 e r => hp d v H1 e r (Out.mono e h)
theorem OutA.bindA {o : Option (Rs (List Dv))} {k : List Dv → Option (Rs (List Dv))} {P : List V → Hp → Prop} (h : OutA X H (bnd o k) QA) (hp : ∀ ds vs H', Same H H' → Reps X.K H' ds vs → OutA X H' (k ds) QA → P vs H') : OutA X H o P := by
 match o, h with
 | some (.exc _), h => exact h
 | some (.ok d), h => exact fun v H1 e r => hp d v H1 e r (OutA.mono e h)
end
abbrev FnE := Ev → Option (Rs Dv)
abbrev FnB := Ev → Option (Rs Bool)
abbrev FnA := Ev → Option (Rs (List Dv))
abbrev FnS := Ev → Option Fl
def tF (X : Cx) (f : FnE) : TE := fun σ H Q => ∃ ρ, Envs X.K H σ ρ ∧ Out X H (f ρ) Q
def tT (X : Cx) (f : FnB) : TT := fun σ H Q => ∃ ρ, Envs X.K H σ ρ ∧ OutB X H (f ρ) Q
def tA (X : Cx) (f : FnA) : TA := fun σ H Q => ∃ ρ, Envs X.K H σ ρ ∧ OutA X H (f ρ) Q
def tS (X : Cx) (f : FnS) : TS := fun D σ H => ∃ ρ, Envs X.K H σ ρ ∧ OutS X H (f ρ) D
structure FE (X : Cx) (e : Expr) (f : FnE) : Prop where
 h : PE X e (tF X f)
structure FT (X : Cx) (e : Expr) (f : FnB) : Prop where
 h : PT X e (tT X f)
structure FW (X : Cx) (e : Expr) (f : FnB) : Prop where
 h : PW X e (tT X f)
structure FA (X : Cx) (es : List Expr) (f : FnA) : Prop where
 h : PA X es (tA X f)
structure FS (X : Cx) (st : Stmt) (f : FnS) : Prop where
 h : PS X st (tS X f)
structure FSs (X : Cx) (st : List Stmt) (f : FnS) : Prop where
 h : PSs X st (tS X f)
section
variable {X : Cx} {a b c e : Expr} {es : List Expr} {fa fb fc : FnE} {pos : Pos}
theorem cP {t : TE} {f : FnE} (h : PE X e t) (w : ∀ σ H Q ρ, Envs X.K H σ ρ → Out X H (f ρ) Q → t σ H Q) : FE X e f :=
 ⟨fun pins s σ H Q I ⟨ρ, E, o⟩ => h pins s σ H Q I (w σ H Q ρ E o)⟩
theorem rY {t : TT} {f : FnB} (h : PT X e t) (w : ∀ σ H Q ρ, Envs X.K H σ ρ → OutB X H (f ρ) Q → t σ H Q) : FT X e f :=
 ⟨fun pins s σ H Q I ⟨ρ, E, o⟩ => h pins s σ H Q I (w σ H Q ρ E o)⟩
theorem yj {t : TT} {f : FnB} (h : PW X e t) (w : ∀ σ H Q ρ, Envs X.K H σ ρ → OutB X H (f ρ) Q → t σ H Q) : FW X e f :=
 ⟨fun wh pins s σ H Q I ⟨ρ, E, o⟩ => h wh pins s σ H Q I (w σ H Q ρ E o)⟩
theorem pp {st : Stmt} {t : TS} {f : FnS} (h : PS X st t) (w : ∀ D σ H ρ, Envs X.K H σ ρ → OutS X H (f ρ) D → t D σ H) : FS X st f :=
 ⟨fun pins s σ H D I ⟨ρ, E, o⟩ => h pins s σ H D I (w D σ H ρ E o)⟩
theorem ud {st : List Stmt} {t : TS} {f : FnS} (h : PSs X st t) (w : ∀ D σ H ρ, Envs X.K H σ ρ → OutS X H (f ρ) D → t D σ H) : FSs X st f :=
 ⟨fun pins s σ H D I ⟨ρ, E, o⟩ => h pins s σ H D I (w D σ H ρ E o)⟩
theorem FW.ft {f : FnB} (h : FW X e f) : FT X e f := ⟨h.h _⟩
def ac (i : Nat) : FnE := fun ρ => match ρ[i]? with
 | some (some d) => some (.ok d)
 | _ => none
def fC (d : Dv) : FnE := fun _ => some (.ok d)
theorem yk (i : Nat) (h : PE X e (xK i)) : FE X e (ac i) := cP h fun σ H Q ρ E o => by
 unfold ac at o
 split at o
 · rename_i d hd
   obtain ⟨v, h1, h2⟩ := E.at' i d hd
   exact ⟨v, h1, o v H (.refl H) h2⟩
 · exact o.elim
theorem glb {x : Str} (h : X.env.kindOf x = some .globalImplicit) : Gl X x := h
theorem BG (i : Nat) {x : Str} (hN : X.N[i]? = some x := by kernel_rfl) (hv : X.env.scope.names.lookup x = some .local := by kernel_rfl) (hd : (x == ("__debug__" : Str)) = false := by kernel_rfl) (hcd : (x == ("__classdict__" : Str)) = false := by kernel_rfl) : FE X (.Name x pos) (ac i) := yk i (oK hN (.inl hv) hd hcd)
theorem BH (i : Nat) {x : Str} (hN : X.N[i]? = some x := by kernel_rfl) (hv : X.env.scope.names.lookup x = some .cell := by kernel_rfl) (hd : (x == ("__debug__" : Str)) = false := by kernel_rfl) (hcd : (x == ("__classdict__" : Str)) = false := by kernel_rfl) : FE X (.Name x pos) (ac i) := yk i (oK hN (.inr (.inl hv)) hd hcd)
theorem xt {d : Dv} {v : V} (h : PE X e (tC v)) (r : ∀ K H, Rep K H d v) : FE X e (fC d) := cP h fun _ H _ _ _ o => o v H (.refl H) (r X.K H)
theorem yl {i j} : FE X (.Constant (.int i) j pos) (fC (.int i)) := xt xL fun _ _ => rfl
theorem BI {b j} : FE X (.Constant (.bool b) j pos) (fC (.bl b)) := xt Bi fun _ _ => rfl
theorem ym {j} : FE X (.Constant .none j pos) (fC .non) := xt xM fun _ _ => rfl
theorem yn {x j} : FE X (.Constant (.str x) j pos) (fC (.str x)) := xt xN fun _ _ => rfl
theorem vd {x : Str} {i : Int} {t : Tok} (hg : Gl X x) (hm : X.mg x = some (.int i t)) (hd : (x == ("__debug__" : Str)) = false := by kernel_rfl) : FE X (.Name x pos) (fC (.int i)) := xt (lu (v := .int i) hg hm ⟨t, rfl⟩ hd) fun _ _ => rfl
theorem ve {x : Str} {i : Str} {t : Tok} (hg : Gl X x) (hm : X.mg x = some (.str i t)) (hd : (x == ("__debug__" : Str)) = false := by kernel_rfl) : FE X (.Name x pos) (fC (.str i)) := xt (lu (v := .str i) hg hm ⟨t, rfl⟩ hd) fun _ _ => rfl
def f2 (g : Dv → Dv → Option (Rs Dv)) (fa fb : FnE) : FnE := fun ρ => bnd (fa ρ) fun x => bnd (fb ρ) fun y => g x y
def GOp (X : Cx) (r : R2) (g : Dv → Dv → Option (Rs Dv)) : Prop := ∀ dx dy x y H Q, Rep X.K H dx x → Rep X.K H dy y → Out X H (g dx dy) Q → r x y H Q
theorem two {r : R2} {g : Dv → Dv → Option (Rs Dv)} (hg : GOp X r g) {σ : L2.St} {H : Hp} {Q : VK} {ρ : Ev} (E : Envs X.K H σ ρ) (o : Out X H (f2 g fa fb ρ) Q) : tOp r (tF X fa) (tF X fb) σ H Q :=
 ⟨ρ, E, Out.bind o fun dx x H1 e1 rx o1 => ⟨ρ, E.mono e1, Out.bind o1 fun dy y H2 e2 ry o2 => hg dx dy x y H2 Q (Rep.mono e2 dx x rx) ry o2⟩⟩
theorem lB {op : Operator} {r : R2} {g : Dv → Dv → Option (Rs Dv)} (ho : OpR X (binaryOp op) r) (hg : GOp X r g) (ha : FE X a fa) (hb : FE X b fb) : FE X (.BinOp a op b pos) (f2 g fa fb) :=
 cP (Bt ho ha.h hb.h) fun _ _ _ _ E o => two hg E o
theorem ie {op : CmpOp} {r : R2} {g : Dv → Dv → Option (Rs Dv)} (ho : OpR X (compareOp op) r) (hg : GOp X r g) (ha : FE X a fa) (hb : FE X b fb) (hm : behindInMarks op b = false) : FE X (.Compare a [op] [b] pos) (f2 g fa fb) :=
 cP (uV ho ha.h hb.h hm) fun _ _ _ _ E o => two hg E o
def toB : Dv → Option (Rs Bool)
 | .bl b => some (.ok b)
 | _ => none
def fB (f : FnE) : FnB := fun ρ => bnd (f ρ) toB
theorem jr {H : Hp} {d : Dv} {v : V} {QB : Bool → Hp → Prop} (r : Rep X.K H d v) (o : OutB X H (toB d) QB) : ∃ k, v = .bl k ∧ QB k H := by
 cases d with
 | bl b => exact ⟨b, r, o H (.refl H)⟩
 | _ => exact o.elim
theorem fL {op : CmpOp} {r : R2} {g : Dv → Dv → Option (Rs Dv)} (ho : OpR X (compareOp op) r) (hg : GOp X r g) (ha : FE X a fa) (hb : FE X b fb) (hm : behindInMarks op b = false) : FT X (.Compare a [op] [b] pos) (fB (f2 g fa fb)) :=
 rY (uW ho ha.h hb.h hm) fun σ H Q ρ E o => by
  show tOp r (tF X fa) (tF X fb) σ H _
  refine two hg E ?_
  exact Out.bindB o fun d v H' e r o' => jr r o'
theorem yo (ha : FE X a fa) (he : ∀ whole, isTrue a X.env whole = (do let v ← whole; standAt a.pos; holding [v] (truthy v)) := by intro _; kernel_rfl) : FT X a (fB fa) :=
 rY (xO ha.h he) fun σ H Q ρ E o => ⟨ρ, E, Out.bindB o fun d v H' e r o' => jr r o'⟩
def gK (g g' : Dv → Dv → Option (Rs Dv)) (fa fb fc : FnE) : FnE := fun ρ => bnd (fa ρ) fun x => bnd (fb ρ) fun y => bnd (g x y) fun z => bnd (toB z) fun k => if k then bnd (fc ρ) fun w => g' y w else some (.ok (.bl false))
def cX (f g : FnB) : FnB := fun ρ => bnd (f ρ) fun k => if k then g ρ else some (.ok false)
def bOr (f g : FnB) : FnB := fun ρ => bnd (f ρ) fun k => if k then some (.ok true) else g ρ
def bu (f : FnB) : FnB := fun ρ => bnd (f ρ) fun k => some (.ok (!k))
variable {ga gb : FnB} {rest : List Expr}
theorem vf (ha : FT X a ga) : FW X (.BoolOp .And [a] pos) ga := ⟨uS ha.h⟩
theorem yp (ha : FT X a ga) : FW X (.BoolOp .Or [a] pos) ga := ⟨xP ha.h⟩
theorem ue (ha : FT X a ga) (hb : FW X (.BoolOp .And (b :: rest) pos) gb) : FW X (.BoolOp .And (a :: b :: rest) pos) (cX ga gb) :=
 yj (xQ ha.h hb.h) fun σ H Q ρ E o => ⟨ρ, E, OutB.bindB o fun k H1 e o' => by
  cases k with
  | true => exact uc ⟨ρ, E.mono e, o'⟩
  | false => exact ub (o' H1 (.refl H1))⟩
theorem yq (ha : FT X a ga) (hb : FW X (.BoolOp .Or (b :: rest) pos) gb) : FW X (.BoolOp .Or (a :: b :: rest) pos) (bOr ga gb) :=
 yj (Bj ha.h hb.h) fun σ H Q ρ E o => ⟨ρ, E, OutB.bindB o fun k H1 e o' => by
  cases k with
  | true => exact uc (o' H1 (.refl H1))
  | false => exact ub ⟨ρ, E.mono e, o'⟩⟩
theorem yr (ha : FT X a ga) : FT X (.UnaryOp .Not a pos) (bu ga) :=
 rY (xR ha.h) fun σ H Q ρ E o => ⟨ρ, E, OutB.bindB o fun k H1 e o' => o' H1 (.refl H1)⟩
def cT (f g : FnE) : FnE := fun ρ => bnd (f ρ) fun x => bnd (toB x) fun k => if k then g ρ else some (.ok (.bl false))
def vOr (f g : FnE) : FnE := fun ρ => bnd (f ρ) fun x => bnd (toB x) fun k => if k then some (.ok (.bl true)) else g ρ
def eR (f : FnE) : FnE := fun ρ => bnd (f ρ) fun x => bnd (toB x) fun k => some (.ok (.bl (!k)))
theorem jt {H : Hp} {d : Dv} {v : V} {k : Bool → Option (Rs Dv)} {Q : VK} (r : Rep X.K H d v) (o : Out X H (bnd (toB d) k) Q) : ∃ b, v = .bl b ∧ Out X H (k b) Q := by
 cases d with
 | bl b => exact ⟨b, r, o⟩
 | _ => exact o.elim
theorem yt {op} (ha : FE X a fa) : FE X (.BoolOp op [a] pos) fa := ⟨xS ha.h⟩
theorem yu (ha : FE X a fa) (hb : FE X (.BoolOp .And (b :: rest) pos) fb) : FE X (.BoolOp .And (a :: b :: rest) pos) (cT fa fb) :=
 cP (xT ha.h hb.h) fun σ H Q ρ E o => ⟨ρ, E, Out.bind o fun d v H1 e r o' => by
  obtain ⟨k, rfl, o2⟩ := jt r o'
  refine ⟨k, rfl, ?_⟩
  cases k with
  | true => exact uc ⟨ρ, E.mono e, o2⟩
  | false => exact ub (o2 (.bl false) H1 (.refl H1) rfl)⟩
theorem BJ (ha : FE X a fa) (hb : FE X (.BoolOp .Or (b :: rest) pos) fb) : FE X (.BoolOp .Or (a :: b :: rest) pos) (vOr fa fb) :=
 cP (Bm ha.h hb.h) fun σ H Q ρ E o => ⟨ρ, E, Out.bind o fun d v H1 e r o' => by
  obtain ⟨k, rfl, o2⟩ := jt r o'
  refine ⟨k, rfl, ?_⟩
  cases k with
  | true => exact uc (o2 (.bl true) H1 (.refl H1) rfl)
  | false => exact ub ⟨ρ, E.mono e, o2⟩⟩
theorem yw (ha : FE X a fa) : FE X (.UnaryOp .Not a pos) (eR fa) :=
 cP (xU ha.h) fun σ H Q ρ E o => ⟨ρ, E, Out.bind o fun d v H1 e r o' => by
  obtain ⟨k, rfl, o2⟩ := jt r o'
  exact ⟨k, rfl, o2 (.bl (!k)) H1 (.refl H1) rfl⟩⟩
def fIf (c : FnB) (f g : FnE) : FnE := fun ρ => bnd (c ρ) fun k => if k then f ρ else g ρ
theorem BK (hc : FT X c ga) (ha : FE X a fa) (hb : FE X b fb) : FE X (.IfExp c a b pos) (fIf ga fa fb) :=
 cP (rQ hc.h ha.h hb.h) fun σ H Q ρ E o => ⟨ρ, E, OutB.bind o fun k H1 e o' => by
  cases k with
  | true => exact uc ⟨ρ, E.mono e, o'⟩
  | false => exact ub ⟨ρ, E.mono e, o'⟩⟩
def ae : FnA := fun _ => some (.ok [])
def aa (f : FnE) (g : FnA) : FnA := fun ρ => bnd (f ρ) fun x => bnd (g ρ) fun xs => some (.ok (x :: xs))
theorem yx {t : TA} {f : FnA} (h : PA X es t) (w : ∀ σ H Q ρ, Envs X.K H σ ρ → OutA X H (f ρ) Q → t σ H Q) : FA X es f :=
 ⟨fun pos pins s σ H Q I ⟨ρ, E, o⟩ => h pos pins s σ H Q I (w σ H Q ρ E o)⟩
theorem pq : FA X [] ae := yx mH fun _ H _ _ _ o => o [] H (.refl H) rfl
theorem lC {g : FnA} (ha : FE X e fa) (hr : FA X es g) (hs : starEach (e :: es) X.env = (false, eval e X.env) :: starEach es X.env := by kernel_rfl) : FA X (e :: es) (aa fa g) :=
 yx (fg ha.h hr.h hs) fun σ H Q ρ E o => ⟨ρ, E, Out.bindA o fun d v H1 e r o1 => ⟨ρ, E.mono e, OutA.bindA o1 fun ds vs H2 e2 rs o2 => o2 (v :: vs) H2 (.refl H2) ⟨v, vs, rfl, Rep.mono e2 d v r, rs⟩⟩⟩
def bq (g : FnA) : FnE := fun ρ => bnd (g ρ) fun ds => if ds.length ≤ 100000 then some (.ok (.lst ds)) else none
def aT (g : FnA) : FnE := fun ρ => bnd (g ρ) fun ds => if ds.length ≤ 100000 then some (.ok (.tup ds)) else none
theorem bO {n : Nat} (h : n ≤ 100000) : n ≤ sizeLine := Nat.le_trans h (by rw [sizeLine_eq]; decide)
theorem yy {g : FnA} (h : FA X es g) : FE X (.List es pos) (bq g) :=
 cP (ua h.h) fun σ H Q ρ E o => ⟨ρ, E, OutA.bind o fun ds vs H1 e rs o1 => by
  split at o1
  · rename_i hl
    refine ⟨by rw [rs.length]; exact bO hl, fun p hp => o1 (.ref p) _ (aF hp _) ⟨p, vs, rfl, av, Reps.mono (aF hp _) _ _ rs⟩⟩
  · exact o1.elim⟩
theorem yz {g : FnA} {k} (h : FA X es g) : FE X (.Tuple es k pos) (aT g) :=
 cP (x5 h.h) fun σ H Q ρ E o => ⟨ρ, E, OutA.bind o fun ds vs H1 e rs o1 => by
  split at o1
  · rename_i hl
    refine ⟨by rw [rs.length]; exact bO hl, fun p hp => o1 (.ref p) _ (aF hp _) ⟨p, vs, rfl, av, Reps.mono (aF hp _) _ _ rs⟩⟩
  · exact o1.elim⟩
variable {st : Stmt} {sts : List Stmt} {f g : FnS}
theorem vg : FSs X [] (fun ρ => some (.nx ρ)) := ud oN fun D σ H ρ E o => o σ H (.refl H) E
def aD (f g : FnS) : FnS := fun ρ => sq (f ρ) g
theorem rZ (h1 : FS X st f) (h2 : FSs X sts g) : FSs X (st :: sts) (aD f g) :=
 ud (jo h1.h h2.h) fun D σ H ρ E o => ⟨ρ, E, by
  unfold aD at o
  match hf : f ρ with
  | none => rw [hf] at o; exact o.elim
  | some (.exc c) => rw [hf] at o; exact o
  | some (.rt d) => rw [hf] at o; exact o
  | some (.nx ρ') => rw [hf] at o; exact fun σ' H' e E' => ⟨ρ', E', OutS.mono e o⟩⟩
theorem pr (h1 : FS X st f) : FSs X [st] f := ⟨oO h1.h⟩
def ay (f : FnE) : FnS := fun ρ => bI (f ρ) fun d => some (.rt d)
theorem uf (he : FE X e fa) : FS X (.Return (some e) pos) (ay fa) :=
 pp (tV he.h) fun D σ H ρ E o => ⟨ρ, E, Out.bindS o fun d v H1 e r o1 => o1 v H1 (.refl H1) r⟩
def a5 (f : FnE) : FnS := fun ρ => bI (f ρ) fun _ => some (.nx ρ)
theorem vh (he : FE X e fa) (hs : swapsWith e none pos.line X.env = pure false := by kernel_rfl) : FS X (.Expr e pos) (a5 fa) :=
 pp (oP he.h hs) fun D σ H ρ E o => ⟨ρ, E, Out.bindS o fun d v H1 e r o1 => o1 σ H1 (.refl H1) (E.mono e)⟩
def bh (i : Nat) (f : FnE) : FnS := fun ρ => bI (f ρ) fun d => some (.nx (ρ.set i (some d)))
theorem yA (i : Nat) {x : Str} {pos' : Pos} (hN : X.N.Nodup) (hi : X.N[i]? = some x) (hx : Loc X.env.scope x) (he : FE X e fa) (hs : swapsWith e (some (.Name x pos')) pos.line X.env = pure false := by kernel_rfl) (hf : X.fn x = true ∨ X.env.scope.names.lookup x = some .local := by first | exact .inl rfl | exact .inr rfl | assumption) :
 FS X (.Assign [.Name x pos'] e pos) (bh i fa) :=
 pp (oQ hN hi hx he.h hs hf) fun D σ H ρ E o => ⟨ρ, E, Out.bindS o fun d v H1 e r o1 => o1 _ H1 (.refl H1) ((E.mono e).set r)⟩
def aR (c : FnB) (f g : FnS) : FnS := fun ρ => bI (c ρ) fun k => if k then f ρ else g ρ
theorem BL {as bs : List Stmt} (hc : FT X c ga) (ha : FSs X as f) (hb : FSs X bs g) : FS X (.If c as bs pos) (aR ga f g) :=
 pp (xV hc.h ha.h hb.h) fun D σ H ρ E o => ⟨ρ, E, OutB.bindS o fun k H1 e o1 => by
  cases k with
  | true => exact uc ⟨ρ, E.mono e, o1⟩
  | false => exact ub ⟨ρ, E.mono e, o1⟩⟩
end
def Its (z : Str) : It := ⟨fun i _ => i < z.cps.size, fun i H x H' => H' = H ∧ ∃ c, z.cps[i]? = some c ∧ x = .str ⟨#[c]⟩, fun i _ => i = z.cps.size⟩
theorem j7 {prog : Program} {w : World} {A : Around} (hh : A.handled = none) (I : Addr) (x : Str) (t : Tok) {ty : String} (hty : ty = "str_ascii_iterator" ∨ ty = "str_iterator") :
 Walks prog w A I [I] [I] x.cps.size (SignAt x) (fun i h => h.IsStrIter I ty x t i) := by
 rcases hty with rfl | rfl
 · exact Walks.strAscii hh I x t
 · exact Walks.strWide hh I x t
theorem r8 {P : Program} {w : World} {K : PySem.W.Frag} {tg : Expr} (z : Str) (t : Tok) (it : Addr) {ty : String} (hty : ty = "str_ascii_iterator" ∨ ty = "str_iterator") : tW P w K tg (Its z) [it] it (fun i h => h.IsStrIter it ty z t i) where
 mem := by simp
 obj := fun i h st b hb => by
  have e : b = it := by simpa using hb
  subst e
  obtain ⟨o, e, c, d⟩ := st
  exact ⟨o, e, fun v z => by rw [d] at z; cases z⟩
 keep := fun i h h' st k => let ⟨o, ho, r⟩ := st; ⟨o, k it (by simp) o ho, r⟩
 item := by
  intro X hP hw hK hc i pins s σ H E I hf st hg
  subst hP hw hK
  obtain ⟨f0, f1, f2, f3, f4, f5⟩ := hf it (by simp)
  have W := j7 (prog := X.prog) (w := X.w) (I.ok.hd hc) it z t hty
  refine W.item i s _ _ hg st fun v h' tk hv st' kk => ?_
  obtain ⟨c, u, hc', rfl⟩ := hv
  have I1 : Inv X pins σ H { s with heap := h', toks := tk } := I.turned (fun b o hb e => kk b o (by simpa using hb) e) f0 f1 f3 f4 f5
  obtain ⟨o, e, c', d⟩ := id st'
  refine ⟨_, rfl, lw (s := { s with heap := h', toks := tk }) e c' d (by rcases hty with rfl | rfl <;> decide) ⟨.str ⟨#[c]⟩, H, I1, ⟨u, rfl⟩, ⟨rfl, c, hc', rfl⟩, st', fun b hb => (hf b hb).1⟩⟩
 done := by
  intro X hP hw hK hc i pins s σ H E I hf st hg
  subst hP hw hK
  obtain ⟨f0, f1, f2, f3, f4, f5⟩ := hf it (by simp)
  have W := j7 (prog := X.prog) (w := X.w) (I.ok.hd hc) it z t hty
  have hg' : i = z.cps.size := hg
  subst hg'
  exact W.done s _ _ st fun h' tk kk => ⟨rfl, I.turned (fun b o hb e => kk b o (by simpa using hb) e) f0 f1 f3 f4 f5⟩
 self := fun A i s Q E st h => by
  rcases hty with rfl | rfl
  · exact wpAny_pyIter_striter_ascii st h
  · exact wpAny_pyIter_striter_wide st h
structure Wk (K : PySem.W.Frag) (J : It) (ds : List Dv) (H0 : Hp) : Prop where
 go : ∀ i H, Same H0 H → i < ds.length → J.go i H
 stop : ∀ H, Same H0 H → J.stop ds.length H
 yld : ∀ i H x H', Same H0 H → i < ds.length → J.yld i H x H' → H' = H ∧ ∃ d, ds[i]? = some d ∧ Rep K H d x
def OutI (X : Cx) (H : Hp) (o : Option (Rs (List Dv))) (R : It → Hp → Prop) : Prop := match o with
 | none => False
 | some (.exc c) => XW X c H
 | some (.ok ds) => ∀ J H', Same H H' → Wk X.K J ds H' → R J H'
structure FI (X : Cx) (tg iter : Expr) (f : FnA) : Prop where
 h : PI X tg iter fun σ H R => ∃ ρ, Envs X.K H σ ρ ∧ OutI X H (f ρ) R
theorem OutI.mono {X : Cx} {H H' : Hp} {R : It → Hp → Prop} (e : Same H H') : ∀ {o : Option (Rs (List Dv))}, OutI X H o R → OutI X H' o R
 | none, h => h
 | some (.exc _), h => XW.mono h e
 | some (.ok _), h => fun v H1 e1 r => h v H1 (e.trans e1) r
def signs (z : Str) : List Dv := z.cps.toList.map fun c => .str ⟨#[c]⟩
def items : Dv → Option (Rs (List Dv))
 | .lst ds => some (.ok ds)
 | .tup ds => some (.ok ds)
 | .str z => some (.ok (signs z))
 | _ => none
def bY (f : FnE) : FnA := fun ρ => bnd (f ρ) items
theorem vi {K : PySem.W.Frag} {H : Hp} {a : Addr} {xs : List V} {ds : List Dv} (h : H a = some (.lst xs)) (r : Reps K H ds xs) : Wk K (Itl K a) ds H where
 go := fun i H' e hi => by
  have hx : i < xs.length := by rw [r.length]; exact hi
  exact ⟨xs, xs[i], SqL.of (e _ _ h), by simp [hx]⟩
 stop := fun H' e => ⟨xs, SqL.of (e _ _ h), by rw [r.length]; exact Nat.le_refl _⟩
 yld := fun i H' x H2 e hi y => by
  obtain ⟨e2, y⟩ := y
  obtain ⟨d, h1, h2⟩ := Reps.get (Reps.mono e _ _ r) (y xs (SqL.of (e _ _ h)))
  exact ⟨e2, d, h1, h2⟩
theorem yB {K : PySem.W.Frag} {H : Hp} {a : Addr} {xs : List V} {ds : List Dv} (h : H a = some (.tup xs)) (r : Reps K H ds xs) : Wk K (Itt K a) ds H where
 go := fun i H' e hi => by
  have hx : i < xs.length := by rw [r.length]; exact hi
  exact ⟨xs, xs[i], SqT.of (e _ _ h), by simp [hx]⟩
 stop := fun H' e => ⟨xs, SqT.of (e _ _ h), by rw [r.length]; exact Nat.le_refl _⟩
 yld := fun i H' x H2 e hi y => by
  obtain ⟨e2, y⟩ := y
  obtain ⟨d, h1, h2⟩ := Reps.get (Reps.mono e _ _ r) (y xs (SqT.of (e _ _ h)))
  exact ⟨e2, d, h1, h2⟩
theorem yC {K : PySem.W.Frag} {H : Hp} {z : Str} : Wk K (Its z) (signs z) H where
 go := fun i H' e hi => by show i < z.cps.size; simpa [signs] using hi
 stop := fun H' e => by show (signs z).length = z.cps.size; simp [signs]
 yld := fun i H' x H2 e hi y => by
  obtain ⟨e2, c, hc, rfl⟩ := y
  refine ⟨e2, .str ⟨#[c]⟩, ?_, rfl⟩
  have hc' : z.cps.toList[i]? = some c := by simpa using hc
  rw [signs, List.getElem?_map, hc'] <;> rfl
def rng (lo : Int) : Nat → List Dv
 | 0 => []
 | n + 1 => .int lo :: rng (lo + 1) n
theorem eH : ∀ (n : Nat) (lo : Int), (rng lo n).length = n
 | 0, _ => rfl
 | n + 1, lo => by show (rng (lo + 1) n).length + 1 = n + 1; rw [eH]
theorem pv : ∀ (n : Nat) (lo : Int) (i : Nat), i < n → (rng lo n)[i]? = some (.int (lo + i))
 | 0, _, _, h => by omega
 | n + 1, lo, 0, _ => by simp [rng]
 | n + 1, lo, i + 1, h => by
  have q := pv n (lo + 1) i (by omega)
  show (Dv.int lo :: rng (lo + 1) n)[i + 1]? = _
  rw [List.getElem?_cons_succ, q]
  congr 2
  omega
theorem mM {K : PySem.W.Frag} {H : Hp} {lo : Int} {n : Nat} : Wk K (Itr lo n) (rng lo n) H where
 go := fun i H' e hi => by rw [eH] at hi; exact hi
 stop := fun H' e => by show n ≤ (rng lo n).length; rw [eH]; exact Nat.le_refl _
 yld := fun i H' x H2 e hi y => by
  obtain ⟨e2, rfl⟩ := y
  rw [eH] at hi
  exact ⟨e2, _, pv n lo i hi, rfl⟩
section
variable {X : Cx} {tg l a b : Expr} {fl : FnE} {pos p : Pos}
theorem yD (hl : FE X l fl) : FI X tg l (bY fl) := by
 constructor
 intro pins s σ H R I h
 obtain ⟨ρ, E, o⟩ := h
 have key : Out X H (fl ρ) fun x H1 => ∃ d, Rep X.K H1 d x ∧ OutI X H1 (items d) R := by
  unfold bY at o
  match hf : fl ρ, o with
  | some (.exc c), o => exact o
  | some (.ok d), o => exact fun v H1 e r => ⟨d, r, OutI.mono e o⟩
  | none, o => exact o
 refine thn (hl.h pins s σ H _ I ⟨ρ, E, key⟩) fun v s1 ⟨x, H1, I1, r1, d, rd, q⟩ => ?_
 have fin : ∀ (o : Obj) (tn : Nat → Heap → Prop) (J : It) (ds : List Dv), tW X.prog X.w X.K tg J [s1.heap.objs.size] s1.heap.objs.size tn → tn 0 (s1.heap.push o) → Wk X.K J ds H1 → (∀ J H', Same H1 H' → Wk X.K J ds H' → R J H') →
  PIE X pins σ tg R (.ref s1.heap.objs.size) { s1 with heap := s1.heap.push o } := fun o tn J ds T t0 w q => by
  refine ⟨s1.heap.objs.size, [s1.heap.objs.size], tn, J, H1, rfl, I1.kept (t' := s1.toks) fun b o e => Heap.get?_push_of_some _ e, T, t0, fun b hb => ?_, q J H1 (.refl H1) w⟩
  have e : b = s1.heap.objs.size := by simpa using hb
  subst e
  exact I1.fpOk (Nat.le_refl _) (I1.hok.fresh (Nat.le_refl _))
 cases d with
 | lst ds =>
  obtain ⟨a, xs, rfl, h1, h2⟩ := rd.lstE
  cases r1
  obtain ⟨its, rv, p, hz⟩ := I1.list (SqL.of h1)
  exact wpAny_pyIter_list p.isList (fin _ _ (Itl X.K a) ds (oR a _) ⟨_, Heap.get?_push_size _ rfl, rfl, rfl⟩ (vi h1 h2) q)
 | tup ds =>
  obtain ⟨a, xs, rfl, h1, h2⟩ := rd.tupE
  cases r1
  obtain ⟨its, rv, p, hz⟩ := I1.tuple (SqT.of h1)
  exact wpAny_pyIter_tuple (show s1.heap.IsTuple a its.toArray from p) (fin _ _ (Itt X.K a) ds (nW a _) ⟨_, Heap.get?_push_size _ rfl, rfl, rfl⟩ (yB h1 h2) q)
 | str z =>
  cases (show x = .str z from rd)
  obtain ⟨t, rfl⟩ := r1
  have hty : strIterType z = "str_ascii_iterator" ∨ strIterType z = "str_iterator" := by
   unfold strIterType
   split
   · exact .inl rfl
   · exact .inr rfl
  exact wpAny_pyIter_strU (fin _ _ (Its z) (signs z) (r8 z t _ hty) ⟨_, Heap.get?_push_size _ rfl, rfl, rfl⟩ yC q)
 | _ => exact q.elim
def iL : List Dv → Option (Rs (List Dv))
 | [.int j] => if -(2 ^ 62) ≤ j ∧ j < 2 ^ 62 then some (.ok (rng 0 j.toNat)) else none
 | _ => none
def rK : List Dv → Option (Rs (List Dv))
 | [.int i, .int j] => if -(2 ^ 62) ≤ i ∧ i < 2 ^ 62 ∧ -(2 ^ 62) ≤ j ∧ j < 2 ^ 62 then some (.ok (rng i (j - i).toNat)) else none
 | _ => none
theorem iR {H : Hp} {R : It → Hp → Prop} {o : Option (Rs (List Dv))} {k : List Dv → Option (Rs (List Dv))} {P : List V → Hp → Prop} (h : OutI X H (bnd o k) R) (hp : ∀ ds vs H', Same H H' → Reps X.K H' ds vs → OutI X H' (k ds) R → P vs H') : OutA X H o P := by
 match o, h with
 | some (.exc _), h => exact h
 | some (.ok d), h => exact fun v H1 e r => hp d v H1 e r (OutI.mono e h)
theorem pw {ga : FnA} (hg : Gl X "range") (hm : X.mg "range" = none) (ha : FA X [a] ga) (hs : starEach [a] X.env = [(false, eval a X.env)] := by kernel_rfl) : FI X tg (.Call (.Name "range" p) [a] [] pos) (fun ρ => bnd (ga ρ) iL) := by
 constructor
 intro pins s σ H R I h
 obtain ⟨ρ, E, o⟩ := h
 refine oU hg hm ha.h hs pins s σ H R I ⟨ρ, E, iR o fun ds vs H' e rs o1 => ?_⟩
 unfold iL at o1
 split at o1
 · rename_i j
   split at o1
   · rename_i hj
     obtain ⟨v, us, rfl, r, t⟩ : ∃ v us, vs = v :: us ∧ Rep X.K H' (.int j) v ∧ Reps X.K H' [] us := rs
     cases (show us = [] from t)
     cases (show v = .int j from r)
     exact ⟨j, rfl, hj.1, hj.2, o1 _ H' (.refl H') mM⟩
   · exact o1.elim
 · exact o1.elim
theorem pA {ga : FnA} (hg : Gl X "range") (hm : X.mg "range" = none) (ha : FA X [a, b] ga) (hs : starEach [a, b] X.env = [(false, eval a X.env), (false, eval b X.env)] := by kernel_rfl) (hs2 : starEach [b] X.env = [(false, eval b X.env)] := by kernel_rfl) :
 FI X tg (.Call (.Name "range" p) [a, b] [] pos) (fun ρ => bnd (ga ρ) rK) := by
 constructor
 intro pins s σ H R I h
 obtain ⟨ρ, E, o⟩ := h
 refine oV hg hm ha.h hs hs2 pins s σ H R I ⟨ρ, E, iR o fun ds vs H' e rs o1 => ?_⟩
 unfold rK at o1
 split at o1
 · rename_i i j
   split at o1
   · rename_i hj
     obtain ⟨v, us, rfl, r, t⟩ : ∃ v us, vs = v :: us ∧ Rep X.K H' (.int i) v ∧ Reps X.K H' [.int j] us := rs
     obtain ⟨v2, us2, rfl, r2, t2⟩ : ∃ v us', us = v :: us' ∧ Rep X.K H' (.int j) v ∧ Reps X.K H' [] us' := t
     cases (show us2 = [] from t2)
     cases (show v = .int i from r)
     cases (show v2 = .int j from r2)
     exact ⟨i, j, rfl, hj, o1 _ H' (.refl H') mM⟩
   · exact o1.elim
 · exact o1.elim
end
def ju (i : Nat) (js : List Nat) (body : FnS) : List Dv → Ev → Option Fl
 | [], ρ => some (.nx (fgt js ρ))
 | d :: ds, ρ => match body ((fgt js ρ).set i (some d)) with
  | some (.nx ρ') => ju i js body ds ρ'
  | o => o
def lr (i : Nat) (js : List Nat) (src : FnA) (body : FnS) : FnS := fun ρ => bI (src ρ) fun ds => ju i js body ds ρ
theorem ig {α : Type} {ds : List α} {i : Nat} {d : α} (h : ds[i]? = some d) : ds.drop i = d :: ds.drop (i + 1) := by
 obtain ⟨hi, e⟩ := List.getElem?_eq_some_iff.mp h
 rw [List.drop_eq_getElem_cons hi, e]
theorem yE {X : Cx} {tg iter : Expr} {body : List Stmt} {pos : Pos} {src : FnA} {fb : FnS} (i : Nat) (js : List Nat) (hp : PassesOwn (model X.prog X.w) X.A X.env X.xe) (hc : X.calm = true) (hi : FI X tg iter src) (hg : PG X tg (lv i)) (hb : FSs X body fb)
 (hs : ∀ x, foldedSetIterable iter X.env x = pure x := by intro _; kernel_rfl) : FS X (.For tg iter body [] pos) (lr i js src fb) := by
 refine pp (tX hp hc hi.h hg hb.h hs) fun D σ H ρ E o => ⟨ρ, E, ?_⟩
 unfold lr at o
 match hf : src ρ, o with
 | none, o => exact o
 | some (.exc c), o => exact o
 | some (.ok ds), o =>
  intro J H1 e1 wk
  have o1 : OutS X H1 (ju i js fb ds ρ) D := OutS.mono e1 o
  refine ⟨fun n m σ' H' => m = ds.length - n ∧ n ≤ ds.length ∧ Same H1 H' ∧ ∃ ρ', Envs X.K H' σ' ρ' ∧ OutS X H' (ju i js fb (ds.drop n) ρ') D, ⟨ds.length, by simp, Nat.zero_le _, .refl H1, ρ, E.mono e1, by simpa using o1⟩, ?_⟩
  rintro n m σ' H' ⟨rfl, hn, e2, ρ', E', o'⟩
  by_cases hlt : n < ds.length
  · refine .inr ⟨wk.go n H' e2 hlt, fun σ2 H2 => Same H1 H2 ∧ ∃ ρ2, Envs X.K H2 σ2 ρ2 ∧ OutS X H2 (ju i js fb (ds.drop (n + 1)) ρ2) D, fun σ2 H2 ⟨e3, ρ2, E2, o2⟩ => ⟨ds.length - (n + 1), by omega, rfl, hlt, e3, ρ2, E2, o2⟩, fun x H2 y => ?_⟩
    obtain ⟨rfl, d, hd, rd⟩ := wk.yld n H' x H2 e2 hlt y
    rw [ig hd] at o'
    show tS X fb _ _ _
    refine ⟨(fgt js ρ').set i (some d), (Envs.fgt js E').set rd, ?_⟩
    unfold ju at o'
    match hb' : fb ((fgt js ρ').set i (some d)) with
    | none => rw [hb'] at o'; exact o'
    | some (.exc c) => rw [hb'] at o'; exact o'
    | some (.rt r) => rw [hb'] at o'; exact o'
    | some (.nx ρ2) => rw [hb'] at o'; exact fun σ2 H3 e3 E3 => ⟨e2.trans e3, ρ2, E3, OutS.mono e3 o'⟩
  · have hn' : n = ds.length := by omega
    subst hn'
    rw [List.drop_length] at o'
    exact .inl ⟨wk.stop H' e2, o' σ' H' (.refl H') (Envs.fgt js E')⟩
def spF (K : PySem.W.Frag) (F : List Dv → Option (Rs Dv)) (n : Nat) : Sp := fun vs H Q _ => ∃ ds, Reps K H ds vs ∧ ds.length = n ∧ match F ds with
 | some (.ok d) => ∀ v H', Same H H' → Rep K H' d v → Q v H'
 | _ => False
def ag (F : List Dv → Option (Rs Dv)) (n : Nat) (g : FnA) : FnE := fun ρ => bnd (g ρ) fun ds => if ds.length = n then (match F ds with | some (.ok d) => some (.ok d) | _ => none) else none
section
variable {X : Cx} {k n : Nat} {f : Addr} {fd : FuncData} {ps : List Str} {x : Str} {p pos : Pos} {e : Expr} {es : List Expr} {F : List Dv → Option (Rs Dv)} {g : FnA}
theorem vj (G : FnOk X.prog X.w X.K X.mg X.base CX0 k f fd ps (spF X.K F n)) (hr : Room k X.A) (hg : Gl X x) (hm : X.mg x = some (.ref f)) (hk : PySem.W.keepIn X.K (.ref f) = true) (hb : Binds X.K fd ps [])
 (ha : FA X (e :: es) g) (hdb : (x == ("__debug__" : Str)) = false := by kernel_rfl) (he : starEach (e :: es) X.env = (false, eval e X.env) :: starEach es X.env := by kernel_rfl) (hpl : (backTo pos (starEach es X.env)).any (·.1) = false := by kernel_rfl) :
 FE X (.Call (.Name x p) (e :: es) [] pos) (ag F n g) :=
 cP (o9 G hr hg hm hk hb .nil BD ha.h hdb he hpl) fun σ H Q ρ E o => ⟨ρ, E, OutA.bind o fun ds vs H' e rs o1 => by
  show spF X.K F n (vs ++ []) H' Q E0
  rw [List.append_nil]
  split at o1
  · rename_i hl
    refine ⟨ds, rs, hl, ?_⟩
    match hF : F ds with
    | some (.ok d) => rw [hF] at o1; exact o1
    | some (.exc c) => rw [hF] at o1; exact o1
    | none => rw [hF] at o1; exact o1
  · exact o1.elim⟩
def Has (P : Program) (w : World) (K : PySem.W.Frag) (mg : Str → Option Value) (base : Heap) (x : Str) (k : Nat) (ps : List Str) (F : List Dv → Option (Rs Dv)) : Prop :=
 ∃ f fd, FnOk P w K mg base CX0 k f fd ps (spF K F ps.length) ∧ mg x = some (.ref f) ∧ PySem.W.keepIn K (.ref f) = true ∧ Binds K fd ps []
theorem r9 {k' : Nat} (k : Nat) (ps : List Str) (F : List Dv → Option (Rs Dv)) (h : Has X.prog X.w X.K X.mg X.base x k ps F) (hr : Room k' X.A) (hk : k ≤ k') (hg : Gl X x) (ha : FA X (e :: es) g) (hn : n = ps.length := by kernel_rfl) (hdb : (x == ("__debug__" : Str)) = false := by kernel_rfl)
 (he : starEach (e :: es) X.env = (false, eval e X.env) :: starEach es X.env := by kernel_rfl) (hpl : (backTo pos (starEach es X.env)).any (·.1) = false := by kernel_rfl) :
 FE X (.Call (.Name x p) (e :: es) [] pos) (ag F n g) := by
 subst hn
 obtain ⟨f, fd, G, hm, hkp, hb⟩ := h
 exact vj (G.mono hk) hr hg hm hkp hb ha hdb he hpl
def aZ (m : Nat) (fb : FnS) : List Dv → Option (Rs Dv) := fun ds => match fb (ds.map some ++ List.replicate (m - ds.length) none) with
 | some (.nx _) => some (.ok .non)
 | some (.rt d) => some (.ok d)
 | _ => none
theorem gp {K : PySem.W.Frag} {H : Hp} {N : List Str} {ds : List Dv} {vs : List V} (r : Reps K H ds vs) : Envs K H (L2.start N vs) (ds.map some ++ List.replicate (N.length - ds.length) none) := by
 have hl := r.length
 refine ⟨by unfold L2.start; rw [List.length_append, List.length_append, List.length_map, List.length_map, List.length_replicate, List.length_replicate, hl], fun i d h => ?_⟩
 by_cases hi : i < ds.length
 · rw [List.getElem?_append_left (by simpa using hi), List.getElem?_map] at h
   cases hd : ds[i]? with
   | none => rw [hd] at h; cases h
   | some d' =>
    rw [hd] at h
    have h' : some (some d') = some (some d) := h
    injection h' with h'
    injection h' with h'
    subst h'
    obtain ⟨v, h1, h2⟩ := r.get' hd
    refine ⟨v, ?_, h2⟩
    unfold L2.start
    rw [List.getElem?_append_left (by rw [List.length_map, hl]; exact hi), List.getElem?_map, h1] <;> rfl
 · rw [List.getElem?_append_right (by simpa using hi), List.getElem?_replicate] at h
   split at h <;> cases h
theorem BM {P : Program} {w : World} {K : PySem.W.Frag} {mg : Str → Option Value} {base : Heap} {qual : Str} {st : Stmt} {N : List Str} {fb : FnS} (Fn : Fun K x qual st f fd) (S : dW N ps (ar st))
 (hb : ∀ (cdv : Value) (A : Around) (outer : List Env) (s : Shared) (H : Hp) (E : XK), Room k (A.deeper (envOfC qual (ar st) s.heap.objs.size f cdv)) → FSs (mJ CX0 P w K mg base N qual (ar st) f cdv A outer s H E).nox (cq st) fb) :
 FnOk P w K mg base CX0 (k + 1) f fd ps (spF K (aZ N.length fb) ps.length) := by
 refine Fn.ok S (fun vs H Q E h => ?_) (fun cdv A outer s H vs Q E hr h => ?_)
 · obtain ⟨ds, r, hl, _⟩ := h
   rw [r.length, hl]
 · obtain ⟨ds, r, hl, q⟩ := h
   refine ⟨_, (hb cdv A outer s H E hr).h, ds.map some ++ List.replicate (N.length - ds.length) none, gp r, ?_⟩
   unfold aZ at q
   match hf : fb (ds.map some ++ List.replicate (N.length - ds.length) none) with
   | none => rw [hf] at q; exact q.elim
   | some (.exc c) => rw [hf] at q; exact q.elim
   | some (.rt d) => rw [hf] at q; exact fun v H' e r' => q v H' e r'
   | some (.nx ρ) => rw [hf] at q; exact fun σ' H' e _ => q .non H' e rfl
end
theorem ug {k : Nat} {f : Addr} {fd : FuncData} {x : Str} {P : Program} {w : World} {K : PySem.W.Frag} {mg : Str → Option Value} {base : Heap} {qual : Str} {st : Stmt} {F : List Dv → Option (Rs Dv)} {n : Nat} (N ps : List Str) (fb : FnS) (hF : F = aZ N.length fb) (hn : n = ps.length)
 (Fn : Fun K x qual st f fd) (S : dW N ps (ar st))
 (hb : ∀ (cdv : Value) (A : Around) (outer : List Env) (s : Shared) (H : Hp) (E : XK), Room k (A.deeper (envOfC qual (ar st) s.heap.objs.size f cdv)) → FSs (mJ CX0 P w K mg base N qual (ar st) f cdv A outer s H E).nox (cq st) fb) :
 FnOk P w K mg base CX0 (k + 1) f fd ps (spF K F n) := by
 subst hF hn
 exact BM Fn S hb
def gQ (names : List (Str × NameKind)) (env : Env) (acc : List (Str × Addr)) : List (Str × Addr) := match names with
 | [] => acc
 | (n, k) :: r => gQ r env (if k == .free then (n, (env.cells.lookup n).getD 0) :: acc else acc)
theorem iS {env : Env} {n : Str} {c : Addr} : ∀ (names : List (Str × NameKind)) (acc : List (Str × Addr)), (gQ names env acc).lookup n = some c → acc.lookup n = some c ∨ ((n, NameKind.free) ∈ names ∧ c = (env.cells.lookup n).getD 0)
 | [], acc, h => .inl h
 | (m, k) :: r, acc, h => by
  rcases iS r _ h with q | ⟨q1, q2⟩
  · by_cases hk : k = .free
    · subst hk
      simp only [beq_self_eq_true, if_true] at q
      rw [List.lookup_cons] at q
      cases hm : n == m with
      | true =>
       rw [hm] at q
       have e : n = m := by simpa using hm
       subst e
       exact .inr ⟨List.mem_cons_self, (Option.some.inj q).symm⟩
      | false => rw [hm] at q; exact .inl q
    · have hb : (k == NameKind.free) = false := by simpa using hk
      rw [hb] at q
      exact .inl (by simpa using q)
  · exact .inr ⟨List.mem_cons_of_mem _ q1, q2⟩
theorem j8 {env : Env} {n : Str} : ∀ (names : List (Str × NameKind)) (acc : List (Str × Addr)), (acc.lookup n).isSome = true → ((gQ names env acc).lookup n).isSome = true
 | [], acc, h => h
 | (m, k) :: r, acc, h => by
  refine j8 r _ ?_
  split
  · rw [List.lookup_cons]
    cases n == m with
    | true => rfl
    | false => exact h
  · exact h
theorem jv {env : Env} {n : Str} : ∀ (names : List (Str × NameKind)) (acc : List (Str × Addr)), (n, NameKind.free) ∈ names → ((gQ names env acc).lookup n).isSome = true
 | [], acc, h => by cases h
 | (m, k) :: r, acc, h => by
  rcases List.mem_cons.mp h with e | q
  · injection e with e1 e2
    subst e1
    subst e2
    refine j8 r _ ?_
    simp only [beq_self_eq_true, if_true, List.lookup_cons]
    rfl
  · exact jv r _ q
theorem di {β : Type} {n : Str} {k : β} : ∀ {l : List (Str × β)}, l.lookup n = some k → (n, k) ∈ l
 | [], h => by simp at h
 | (m, j) :: r, h => by
  rw [List.lookup_cons] at h
  cases hm : n == m with
  | true =>
   rw [hm] at h
   have e : n = m := by simpa using hm
   subst e
   have e2 : j = k := Option.some.inj h
   subst e2
   exact List.mem_cons_self
  | false => rw [hm] at h; exact List.mem_cons_of_mem _ (di h)
structure Dw (osc scope : Scope) (x : Str) (cs : List (Str × Nat)) (N : List Str) : Prop where
 kind : scope.kind = .function
 okind : osc.kind = .function
 cell : ∀ y ∈ scope.names, y.2 ≠ .cell
 names : ∀ y ∈ scope.names, y.2 = .local → scope.names.lookup y.1 = some .local
 tgt : scope.names.lookup x = some .local
 nd : (x :: cs.map (·.1)).Nodup
 free : ∀ y ∈ scope.names, y.2 = .free → osc.names.lookup y.1 = some .cell ∨ osc.names.lookup y.1 = some .free
 caps : ∀ c ∈ cs, N[c.2]? = some c.1 ∧ scope.names.lookup c.1 = some .free
theorem gL {scope : Scope} {env : Env} {n : Str} {k : NameKind} (h : (relabel scope env).names.lookup n = some k) : (n, k) ∈ scope.names ∨ (k = .cell ∧ (n, NameKind.free) ∈ scope.names) := by
 have q := di h
 unfold relabel at q
 obtain ⟨⟨m, j⟩, hm, e⟩ := List.mem_map.mp q
 dsimp only at e
 split at e
 · rename_i hc
   injection e with e1 e2
   subst e1
   have hj : j = .free := by
    rw [Bool.and_eq_true, Bool.and_eq_true] at hc
    simpa using hc.1.1
   subst hj
   exact .inr ⟨e2.symm, hm⟩
 · injection e with e1 e2
   subst e1
   subst e2
   exact .inl hm
theorem gM {env : Env} : ∀ {names : List (Str × NameKind)} {n : Str}, names.lookup n = some .free →
 (names.map fun (n, k) => if (k == NameKind.free && env.scope.kind == .function && env.kindOf n == some .cell) then (n, NameKind.cell) else (n, k)).lookup n = some .cell ∨
 (names.map fun (n, k) => if (k == NameKind.free && env.scope.kind == .function && env.kindOf n == some .cell) then (n, NameKind.cell) else (n, k)).lookup n = some .free
 | [], _, h => by simp at h
 | (m, k) :: r, n, h => by
  have ih := @gM env r n
  rw [List.lookup_cons] at h
  rw [List.map_cons]
  cases hm : n == m with
  | true =>
   rw [hm] at h
   have e2 : k = .free := Option.some.inj h
   subst e2
   by_cases hc : (NameKind.free == NameKind.free && env.scope.kind == .function && env.kindOf m == some .cell) = true
   · dsimp only
     rw [if_pos hc, List.lookup_cons, hm]
     exact .inl rfl
   · dsimp only
     rw [if_neg hc, List.lookup_cons, hm]
     exact .inr rfl
  | false =>
   rw [hm] at h
   dsimp only
   by_cases hc : (k == NameKind.free && env.scope.kind == .function && env.kindOf m == some .cell) = true
   · rw [if_pos hc, List.lookup_cons, hm]; exact ih h
   · rw [if_neg hc, List.lookup_cons, hm]; exact ih h
def uh (cs : List (Str × Nat)) (ρ : Ev) : Ev := none :: cs.map fun c => (ρ[c.2]?).join
section
variable {X : Cx} {pins : List (Addr × Obj)} {σ : L2.St} {H : Hp} {s : Shared}
end
def pB (tst : Option FnB) (elt : FnE) (cap : Ev) : List Dv → Option (List Dv)
 | [] => some []
 | d :: ds =>
  let ρ := cap.set 0 (some d)
  match (match tst with | none => (some (.ok true) : Option (Rs Bool)) | some t => t ρ) with
  | some (.ok true) => (match elt ρ with
   | some (.ok y) => (match pB tst elt cap ds with | some ys => some (y :: ys) | none => none)
   | _ => none)
  | some (.ok false) => pB tst elt cap ds
  | _ => none
def bg (cs : List (Str × Nat)) (src : FnA) (tst : Option FnB) (elt : FnE) : FnE := fun ρ => bnd (src ρ) fun ds => match pB tst elt (uh cs ρ) ds with
 | some ys => if ys.length ≤ 100000 ∧ ds.length ≤ 100000 then some (.ok (.lst ys)) else none
 | none => none
def LAt (h : Heap) (D : Addr) (its : List Value) : Prop := ∃ n, h.get? D = some { cls := .type "list", data := .seq its.toArray n }
theorem nY {P : Program} {w : World} {A : Around} {E : Value → Shared → Prop} {s : Shared} {D : Addr} {its : List Value} {u : Value} {Q : Value → Shared → Prop} (h : LAt s.heap D its) (hz : its.length ≤ 100000)
 (hQ : ∀ h', LAt h' D (its ++ [u]) → (∀ b o, b ≠ D → s.heap.get? b = some o → h'.get? b = some o) → Q .none { s with heap := h' }) : wpAny (model P w) A (call (.builtin "list.append") [.ref D, u]) Q E s := by
 obtain ⟨n, e⟩ := h
 refine call_meets F.slot_list_append ⟨_, e, rfl⟩ F.entry_list_append (F.args_list_append_2 _ _) (PySem.list_append D its.toArray n u (by rw [List.size_toArray]; exact bO hz)) ⟨e, ?_⟩
 have q := PySem.IsL.update e (·.push u)
 have e2 : its.toArray.push u = (its ++ [u]).toArray := by simp
 rw [e2] at q
 exact hQ _ ⟨_, q⟩ fun b o hb ho => (Heap.get?_update_other s.heap _ (Ne.symm hb)).trans ho
def pC (X : Cx) (ifs : List Expr) (tst : Option FnB) : Prop := match tst with
 | none => ifs = []
 | some t => ∃ c, ifs = [c] ∧ FT X c t
theorem HOk.add {P : Program} {w : World} {H : Hp} {h h' : Heap} {D C : Addr} {o : HO} (x : HOk P w H h) (hD : H D = none) (hC : H C = none) (k : ∀ b u, b ≠ C → h.get? b = some u → h'.get? b = some u) (new : ObjOk P w (upd H D o) h' D o) : HOk P w (upd H D o) h' := fun b u e => by
 by_cases hb : b = D
 · subst hb; rw [av] at e; cases e; exact new
 · rw [az hb] at e
   refine (x b u e).stay (fun c v hc q => k c v ?_ q) (fun c q => by rw [az (aB q hD)]; exact q) fun c xs q => by rw [az (aB q hD)]; exact q
   rcases hc with rfl | hc
   · exact aB e hC
   · exact aB hc hC
theorem vk {b D : Nat} (h : b < D) : b ≠ D := by omega
theorem yF {b D : Nat} (h : b < D) : b ≠ D + 1 := by omega
theorem Dx {D : Nat} : D ≠ D + 1 := by omega
section
variable {X : Cx}
def cY : Dv → Dv → Option (Rs Dv)
 | .int i, .int j => some (.ok (.int (i + j)))
 | .str x, .str y => if x.length + y.length ≤ 100000 then some (.ok (.str (x ++ y))) else none
 | .lst a, .lst b => if a.length + b.length ≤ 100000 then some (.ok (.lst (a ++ b))) else none
 | _, _ => none
def vm : R2 := fun x y H Q => rI0 (fun i j => .int (i + j)) x y H Q ∨ ((∃ i j, x = .str i ∧ y = .str j ∧ i.length + j.length ≤ sizeLine ∧ Q (.str (i ++ j)) H) ∨ Ds x y H Q)
theorem o_add : OpR X (binaryOp .Add) vm := op_add.or (op_add_str.or yh)
theorem yG : GOp X vm cY := by
 intro dx dy x y H Q rx ry o
 cases dx <;> cases dy <;> try exact (show False from o).elim
 · rename_i i j
   exact .inl ⟨i, j, rx, ry, o _ H (.refl H) rfl⟩
 · rename_i i j
   simp only [cY] at o
   split at o
   · rename_i hl
     exact .inr (.inl ⟨i, j, rx, ry, bO hl, o _ H (.refl H) rfl⟩)
   · exact o.elim
 · rename_i a b
   simp only [cY] at o
   split at o
   · rename_i hl
     obtain ⟨p, xs, rfl, h1, q1⟩ := rx.lstE
     obtain ⟨p2, xs2, rfl, h2, q2⟩ := ry.lstE
     refine .inr (.inr ⟨p, p2, xs, xs2, rfl, rfl, h1, h2, by rw [q1.length, q2.length]; exact bO hl, fun l hl => o _ _ (aF hl _) ⟨l, _, rfl, av, Reps.mono (aF hl _) _ _ (q1.append q2)⟩⟩)
   · exact o.elim
def vn : Dv → Dv → Option (Rs Dv)
 | .int i, .int j => some (.ok (.int (i - j)))
 | _, _ => none
theorem BN : GOp X (rI0 fun i j => .int (i - j)) vn := by
 intro dx dy x y H Q rx ry o
 cases dx <;> cases dy <;> try exact (show False from o).elim
 rename_i i j
 exact ⟨i, j, rx, ry, o _ H (.refl H) rfl⟩
def fI : Dv → Dv → Option (Rs Dv)
 | .int i, .int j => if (-18446744073709551616 < i ∧ i < 18446744073709551616) ∨ (-18446744073709551616 < j ∧ j < 18446744073709551616) then some (.ok (.int (i * j))) else none
 | _, _ => none
theorem yH : GOp X (rI CMul fun i j => .int (i * j)) fI := by
 intro dx dy x y H Q rx ry o
 cases dx <;> cases dy <;> try exact (show False from o).elim
 rename_i i j
 simp only [fI] at o
 split at o
 · rename_i h
   exact ⟨i, j, rx, ry, h, o _ H (.refl H) rfl⟩
 · exact o.elim
def fJ : Dv → Dv → Option (Rs Dv)
 | .int i, .int j => if 0 < j then some (.ok (.int (i % j))) else none
 | _, _ => none
theorem BO : GOp X (rI (fun _ j => 0 < j) fun i j => .int (i % j)) fJ := by
 intro dx dy x y H Q rx ry o
 cases dx <;> cases dy <;> try exact (show False from o).elim
 rename_i i j
 simp only [fJ] at o
 split at o
 · rename_i h
   exact ⟨i, j, rx, ry, h, o _ H (.refl H) rfl⟩
 · exact o.elim
def fN : Dv → Dv → Option (Rs Dv)
 | .int i, .int j => if 0 < j ∧ j < 1073741824 then some (.ok (.int (i / j))) else none
 | _, _ => none
theorem yI : GOp X (rI Di fun i j => .int (i / j)) fN := by
 intro dx dy x y H Q rx ry o
 cases dx <;> cases dy <;> try exact (show False from o).elim
 rename_i i j
 simp only [fN] at o
 split at o
 · rename_i h
   exact ⟨i, j, rx, ry, h, o _ H (.refl H) rfl⟩
 · exact o.elim
def rL : Dv → Option (Rs Dv)
 | .int i => some (.ok (.int (-i)))
 | _ => none
def f1 (g : Dv → Option (Rs Dv)) (fa : FnE) : FnE := fun ρ => bnd (fa ρ) g
theorem yJ {a : Expr} {fa : FnE} {pos : Pos} (ha : FE X a fa) : FE X (.UnaryOp .USub a pos) (f1 rL fa) :=
 cP (Bu xZ ha.h) fun σ H Q ρ E o => ⟨ρ, E, Out.bind o fun d v H1 e r o1 => by
  cases d <;> try exact (show False from o1).elim
  rename_i i
  exact ⟨i, r, o1 _ H1 (.refl H1) rfl⟩⟩
def seq (x y : Str) : Bool := x.cps.toList == y.cps.toList
theorem mO (x y : Str) : (x == y) = seq x y := by
 rw [Bool.eq_iff_iff]
 unfold seq
 obtain ⟨⟨a⟩⟩ := x
 obtain ⟨⟨b⟩⟩ := y
 simp
def eqS : Dv → Dv → Option Bool
 | .non, .non => some true
 | .non, .int _ => some false
 | .int _, .non => some false
 | .non, .bl _ => some false
 | .bl _, .non => some false
 | .non, .str _ => some false
 | .str _, .non => some false
 | .int i, .int j => some (i == j)
 | .bl i, .bl j => some (i == j)
 | .str i, .str j => some (seq i j)
 | .int _, .str _ => some false
 | .str _, .int _ => some false
 | .bl _, .str _ => some false
 | .str _, .bl _ => some false
 | _, _ => none
theorem ui {K : PySem.W.Frag} {H : Hp} {dx dy : Dv} {x y : V} {b : Bool} (rx : Rep K H dx x) (ry : Rep K H dy y) (h : eqS dx dy = some b) : Bw x y = true ∧ decide (x = y) = b := by
 cases dx <;> cases dy <;> (try cases h) <;> (try (cases rx; cases ry; exact ⟨rfl, by first | rfl | exact lx | exact oW | (rw [ly, mO]) | simp⟩))
def BP (p : Int → Int → Bool) : Dv → Dv → Option (Rs Dv)
 | .int i, .int j => some (.ok (.bl (p i j)))
 | _, _ => none
theorem BQ (p : Int → Int → Bool) : GOp X (rI0 fun i j => .bl (p i j)) (BP p) := by
 intro dx dy x y H Q rx ry o
 cases dx <;> cases dy <;> try exact (show False from o).elim
 rename_i i j
 exact ⟨i, j, rx, ry, o _ H (.refl H) rfl⟩
abbrev gtD := BP fun i j => decide (j < i)
def isN : Dv → Dv → Option (Rs Dv)
 | x, .non => some (.ok (.bl (match x with | .non => true | _ => false)))
 | _, _ => none
def dC : Dv → Dv → Option (Rs Dv)
 | x, .non => some (.ok (.bl (match x with | .non => false | _ => true)))
 | _, _ => none
theorem pD {K : PySem.W.Frag} {H : Hp} {d : Dv} {v : V} (r : Rep K H d v) : decide (v = .non) = (match d with | .non => true | _ => false) := by
 cases d with
 | non => cases (show v = .non from r); rfl
 | bl b => cases (show v = .bl b from r); rfl
 | int b => cases (show v = .int b from r); rfl
 | str b => cases (show v = .str b from r); rfl
 | tup ds => obtain ⟨a, xs, rfl, _⟩ := r.tupE; rfl
 | lst ds => obtain ⟨a, xs, rfl, _⟩ := r.lstE; rfl
 | scr ds => obtain ⟨a, rfl, _⟩ := r.scrE; rfl
 | exn c =>
  obtain ⟨a, _, _, _, rfl, _⟩ := r.exnE
  rfl
theorem yK : GOp X (fun x y H Q => y = .non ∧ Q (.bl (decide (x = .non))) H) isN := by
 intro dx dy x y H Q rx ry o
 cases dy <;> try exact (show False from o).elim
 have q := pD rx
 refine ⟨ry, ?_⟩
 have q2 := o _ H (.refl H) rfl
 cases dx <;> (rw [q]; exact q2)
theorem uj : GOp X (fun x y H Q => y = .non ∧ Q (.bl (!decide (x = .non))) H) dC := by
 intro dx dy x y H Q rx ry o
 cases dy <;> try exact (show False from o).elim
 have q := pD rx
 refine ⟨ry, ?_⟩
 have q2 := o _ H (.refl H) rfl
 cases dx <;> (rw [q]; exact q2)
def inS (x y : Str) : Bool := !(Builtin.Str.occurrences y x 0 y.length 1).isEmpty
def dD : Dv → Bool
 | .non => true
 | .bl _ => true
 | .int _ => true
 | .str _ => true
 | _ => false
def eqF : Dv → Dv → Bool
 | .non, .non => true
 | .bl a, .bl b => a == b
 | .bl a, .int b => (if a then 1 else 0) == b
 | .int a, .bl b => a == (if b then 1 else 0)
 | .int a, .int b => a == b
 | .str a, .str b => seq a b
 | _, _ => false
def inL (x : Dv) (ys : List Dv) : Option Bool := if dD x && ys.all dD then some (ys.any fun y => eqF y x) else none
def Dy : Dv → Dv → Option Bool
 | .str x, .str y => some (inS x y)
 | x, .lst ys => inL x ys
 | x, .tup ys => inL x ys
 | _, _ => none
def inD (x y : Dv) : Option (Rs Dv) := match Dy x y with
 | some b => some (.ok (.bl b))
 | none => none
def mP (x y : Dv) : Option (Rs Dv) := match Dy x y with
 | some b => some (.ok (.bl (!b)))
 | none => none
theorem jw {K : PySem.W.Frag} {H : Hp} {d : Dv} {v : V} (r : Rep K H d v) (h : dD d = true) : dR v = true := by
 cases d <;> first | (cases h; done) | (cases r; rfl)
theorem gW {K : PySem.W.Frag} {H : Hp} : ∀ {ds : List Dv} {vs : List V}, Reps K H ds vs → ds.all dD = true → vs.all dR = true
 | [], vs, r, _ => by cases (show vs = [] from r); rfl
 | d :: ds, vs, r, h => by
  obtain ⟨v, us, rfl, r1, r2⟩ : ∃ v us, vs = v :: us ∧ Rep K H d v ∧ Reps K H ds us := r
  rw [List.all_cons, Bool.and_eq_true] at h
  rw [List.all_cons, Bool.and_eq_true]
  exact ⟨jw r1 h.1, gW r2 h.2⟩
theorem pE {K : PySem.W.Frag} {H : Hp} {d e : Dv} {v u : V} (r : Rep K H d v) (q : Rep K H e u) (h : dD d = true) (h' : dD e = true) : eqV v u = eqF d e := by
 cases d <;> first | (cases h; done) | (cases r; cases e <;> first | (cases h'; done) | (cases q; first | rfl | exact mO _ _))
theorem ul {K : PySem.W.Frag} {H : Hp} {e : Dv} {u : V} (q : Rep K H e u) (h' : dD e = true) : ∀ {ds : List Dv} {vs : List V}, Reps K H ds vs → ds.all dD = true → (vs.any fun y => eqV y u) = ds.any fun y => eqF y e
 | [], vs, r, _ => by cases (show vs = [] from r); rfl
 | d :: ds, vs, r, h => by
  obtain ⟨v, us, rfl, r1, r2⟩ : ∃ v us, vs = v :: us ∧ Rep K H d v ∧ Reps K H ds us := r
  rw [List.all_cons, Bool.and_eq_true] at h
  rw [List.any_cons, List.any_cons, pE r1 q h.1 h', ul q h' r2 h.2]
theorem mQ {K : PySem.W.Frag} {H : Hp} {dx : Dv} {ys : List Dv} {x : V} {vs : List V} {b : Bool} (rx : Rep K H dx x) (ry : Reps K H ys vs) (h : inL dx ys = some b) : dR x = true ∧ vs.all dR = true ∧ inV x vs = b := by
 unfold inL at h
 split at h
 · rename_i hc
   rw [Bool.and_eq_true] at hc
   cases h
   exact ⟨jw rx hc.1, gW ry hc.2, ul rx hc.1 ry hc.2⟩
 · cases h
def Dz (K : PySem.W.Frag) : R2 := fun x y H Q => (∃ i j, x = .str i ∧ y = .str j ∧ Q (.bl (!(Builtin.Str.occurrences j i 0 j.length 1).isEmpty)) H) ∨ rIn K false x y H Q
def pF (K : PySem.W.Frag) : R2 := fun x y H Q => (∃ i j, x = .str i ∧ y = .str j ∧ Q (.bl (!(!(Builtin.Str.occurrences j i 0 j.length 1).isEmpty))) H) ∨ rIn K true x y H Q
theorem DA : OpR X (compareOp .In) (Dz X.K) := op_in_str.or pe
theorem vo : OpR X (compareOp .NotIn) (pF X.K) := op_notIn_str.or j5
theorem DB : GOp X (Dz X.K) inD := by
 intro dx dy x y H Q rx ry o
 unfold inD at o
 split at o
 · rename_i b hb
   have q := o _ H (.refl H) rfl
   cases dy <;> try (cases dx <;> cases hb; done)
   · rename_i z
     cases dx <;> try (cases hb; done)
     rename_i z'
     cases hb
     exact .inl ⟨z', z, rx, ry, q⟩
   · rename_i ys
     have hb' : inL dx ys = some b := by cases dx <;> exact hb
     obtain ⟨a, vs, rfl, h1, h2⟩ := ry.tupE
     obtain ⟨f1, f2, f3⟩ := mQ rx h2 hb'
     exact .inr ⟨a, vs, rfl, .inr (SqT.of h1), f1, f2, by rw [if_neg Bool.false_ne_true, f3]; exact q⟩
   · rename_i ys
     have hb' : inL dx ys = some b := by cases dx <;> exact hb
     obtain ⟨a, vs, rfl, h1, h2⟩ := ry.lstE
     obtain ⟨f1, f2, f3⟩ := mQ rx h2 hb'
     exact .inr ⟨a, vs, rfl, .inl (SqL.of h1), f1, f2, by rw [if_neg Bool.false_ne_true, f3]; exact q⟩
 · exact o.elim
theorem vp : GOp X (pF X.K) mP := by
 intro dx dy x y H Q rx ry o
 unfold mP at o
 split at o
 · rename_i b hb
   have q := o _ H (.refl H) rfl
   cases dy <;> try (cases dx <;> cases hb; done)
   · rename_i z
     cases dx <;> try (cases hb; done)
     rename_i z'
     cases hb
     exact .inl ⟨z', z, rx, ry, q⟩
   · rename_i ys
     have hb' : inL dx ys = some b := by cases dx <;> exact hb
     obtain ⟨a, vs, rfl, h1, h2⟩ := ry.tupE
     obtain ⟨f1, f2, f3⟩ := mQ rx h2 hb'
     exact .inr ⟨a, vs, rfl, .inr (SqT.of h1), f1, f2, by rw [if_pos rfl, f3]; exact q⟩
   · rename_i ys
     have hb' : inL dx ys = some b := by cases dx <;> exact hb
     obtain ⟨a, vs, rfl, h1, h2⟩ := ry.lstE
     obtain ⟨f1, f2, f3⟩ := mQ rx h2 hb'
     exact .inr ⟨a, vs, rfl, .inl (SqL.of h1), f1, f2, by rw [if_pos rfl, f3]; exact q⟩
 · exact o.elim
def atD {α : Type} (xs : List α) (i : Int) : Option α := if 0 ≤ i then xs[i.toNat]? else if -(xs.length : Int) ≤ i then xs[(i + xs.length).toNat]? else none
theorem jx {α : Type} {xs : List α} {i : Int} {v : α} (h : atD xs i = some v) : atI xs i = some v := by
 unfold atD at h
 unfold atI ixN
 split at h
 · rename_i h0
   have hl : i.toNat < xs.length := by
    obtain ⟨q, _⟩ := List.getElem?_eq_some_iff.mp h
    exact q
   rw [if_pos h0, if_pos (by omega)]
   exact h
 · rename_i h0
   split at h
   · rename_i h1
     rw [if_neg h0, if_pos h1]
     exact h
   · cases h
def ixD : Dv → Dv → Option (Rs Dv)
 | .lst xs, .int i => (match atD xs i with | some d => some (.ok d) | none => none)
 | .tup xs, .int i => (match atD xs i with | some d => some (.ok d) | none => none)
 | .str z, .int i => if z.length ≤ 100000 then (match atD z.cps.toList i with | some c => some (.ok (.str ⟨#[c]⟩)) | none => none) else none
 | .scr ns, .int i => (match atD ns i with | some d => some (.ok (.int d)) | none => none)
 | _, _ => none
theorem lD {α β : Type} {xs : List α} {ys : List β} (h : ys.length = xs.length) {i : Int} {x : α} (e : atD xs i = some x) : ∃ j : Nat, xs[j]? = some x ∧ ∀ y, ys[j]? = some y → atD ys i = some y := by
 unfold atD at e
 split at e
 · rename_i h0
   exact ⟨_, e, fun y q => by unfold atD; rw [if_pos h0]; exact q⟩
 · rename_i h0
   split at e
   · rename_i h1
     exact ⟨_, e, fun y q => by unfold atD; rw [if_neg h0, h, if_pos h1]; exact q⟩
   · cases e
theorem Eh : GOp X (rIx X.K) ixD := by
 intro dx dy x y H Q rx ry o
 cases dx <;> cases dy <;> try exact (show False from o).elim
 · rename_i z i
   simp only [ixD] at o
   split at o
   · rename_i hl
     split at o
     · rename_i c hc
       exact .inr (.inr ⟨z, i, c, rx, ry, bO hl, jx hc, o _ H (.refl H) rfl⟩)
     · exact o.elim
   · exact o.elim
 · rename_i ds i
   simp only [ixD] at o
   split at o
   · rename_i d hd
     obtain ⟨a, xs, rfl, h1, h2⟩ := rx.tupE
     obtain ⟨j, e1, e2⟩ := lD h2.length hd
     obtain ⟨v, e3, r3⟩ := h2.get' e1
     exact .inr (.inl ⟨a, xs, i, v, rfl, ry, SqT.of h1, jx (e2 v e3), o v H (.refl H) r3⟩)
   · exact o.elim
 · rename_i ds i
   simp only [ixD] at o
   split at o
   · rename_i d hd
     obtain ⟨a, xs, rfl, h1, h2⟩ := rx.lstE
     obtain ⟨j, e1, e2⟩ := lD h2.length hd
     obtain ⟨v, e3, r3⟩ := h2.get' e1
     exact .inl ⟨a, xs, i, v, rfl, ry, SqL.of h1, jx (e2 v e3), o v H (.refl H) r3⟩
   · exact o.elim
 · rename_i ns i
   simp only [ixD] at o
   split at o
   · rename_i d hd
     obtain ⟨a, rfl, h1⟩ := rx.scrE
     obtain ⟨j, e1, e2⟩ := lD (ys := ns.map V.int) (by simp) hd
     exact .inl ⟨a, _, i, .int d, rfl, ry, h1, jx (e2 _ (by rw [List.getElem?_map, e1] <;> rfl)), o _ H (.refl H) rfl⟩
   · exact o.elim
theorem BR {a b : Expr} {fa fb : FnE} {pos : Pos} (ha : FE X a fa) (hb : FE X b fb) (hs : pc b := by intro _ _; kernel_rfl) : FE X (.Subscript a b pos) (f2 ixD fa fb) :=
 cP (BB ye ha.h hb.h hs) fun _ _ _ _ E o => two Eh E o
abbrev FnO := Ev → Option (Rs (Option Int))
def OutO (X : Cx) (H : Hp) (o : Option (Rs (Option Int))) (Q : Option Int → Hp → Prop) : Prop := match o with
 | none => False
 | some (.exc c) => XW X c H
 | some (.ok d) => ∀ H', Same H H' → Q d H'
theorem OutO.mono {H H' : Hp} {Q : Option Int → Hp → Prop} (e : Same H H') : ∀ {o : Option (Rs (Option Int))}, OutO X H o Q → OutO X H' o Q
 | none, h => h
 | some (.exc _), h => XW.mono h e
 | some (.ok _), h => fun H1 e1 => h H1 (e.trans e1)
structure FO (X : Cx) (e : Option Expr) (f : FnO) : Prop where
 h : PO X e fun σ H Q => ∃ ρ, Envs X.K H σ ρ ∧ OutO X H (f ρ) Q
def j9 : FnO := fun _ => some (.ok none)
def toI : Dv → Option (Rs (Option Int))
 | .int i => some (.ok (some i))
 | _ => none
def jy (f : FnE) : FnO := fun ρ => bnd (f ρ) toI
theorem vq : FO X none j9 := ⟨fun pins s σ H Q I ⟨_, _, o⟩ => uZ pins s σ H Q I (o H (.refl H))⟩
theorem vt {e : Expr} {fa : FnE} (h : FE X e fa) : FO X (some e) (jy fa) := ⟨fun pins s σ H Q I ⟨ρ, E, o⟩ => u0 h.h pins s σ H Q I ⟨ρ, E, by
 unfold jy at o
 match hf : fa ρ, o with
 | none, o => exact o
 | some (.exc c), o => exact o
 | some (.ok d), o =>
  intro v H' e r
  cases d <;> try exact (show False from o).elim
  rename_i i
  exact ⟨i, r, o H' e⟩⟩⟩
def DC {α : Type} (xs : List α) (lo hi : Option Int) : List α := (xs.drop (HT.sIx xs.length 0 lo)).take (HT.sIx xs.length xs.length hi - HT.sIx xs.length 0 lo)
def Ei : V → Option Int → Option Int → Hp → VK → Prop := fun x lo hi H Q => ∃ z, x = .str z ∧ z.length ≤ sizeLine ∧ Q (.str (Txt.slice z lo hi)) H
theorem sl_str : SlR X Ei := by
 intro pins s σ H x v vl vu lo hi sl Q I rx hs pl pu q
 obtain ⟨z, rfl, hz, q⟩ := q
 obtain ⟨t, rfl⟩ := rx
 refine ⟨"str", _, F.slot_str_getitem.lookup, typeIs_str _ _ _, ?_⟩
 have fin : ∀ (t' : Tok) (k : Nat), EP X pins σ Q (.str (Txt.slice z lo hi) t') { s with toks := k } := fun t' k => ⟨.str (Txt.slice z lo hi), H, I.tok _, ⟨_, rfl⟩, q⟩
 cases pl with
 | none =>
  cases pu with
  | none => exact wpAny_getItem_str_slice (l := none) (u := none) (st := none) hs rfl (post_val_or_str ⟨Nat.le_trans (Txt.slice_le z _ _) hz, fun t' k => fin t' k⟩)
  | int j u => exact wpAny_getItem_str_slice (l := none) (u := some (j, u)) (st := none) hs rfl (post_val_or_str ⟨Nat.le_trans (Txt.slice_le z _ _) hz, fun t' k => fin t' k⟩)
 | int i u' =>
  cases pu with
  | none => exact wpAny_getItem_str_slice (l := some (i, u')) (u := none) (st := none) hs rfl (post_val_or_str ⟨Nat.le_trans (Txt.slice_le z _ _) hz, fun t' k => fin t' k⟩)
  | int j u => exact wpAny_getItem_str_slice (l := some (i, u')) (u := some (j, u)) (st := none) hs rfl (post_val_or_str ⟨Nat.le_trans (Txt.slice_le z _ _) hz, fun t' k => fin t' k⟩)
def DD (x : Dv) (lo hi : Option Int) : Option (Rs Dv) := match x with
 | .str z => if z.length ≤ 100000 then some (.ok (.str (Txt.slice z lo hi))) else none
 | .lst xs => some (.ok (.lst (DC xs lo hi)))
 | _ => none
def um (fa : FnE) (fl fh : FnO) : FnE := fun ρ => bnd (fa ρ) fun x => bnd (fl ρ) fun lo => bnd (fh ρ) fun hi => DD x lo hi
theorem ka {H : Hp} {Q : VK} {o : Option (Rs (Option Int))} {k : Option Int → Option (Rs Dv)} {P : Option Int → Hp → Prop} (h : Out X H (bnd o k) Q) (hp : ∀ b H', Same H H' → Out X H' (k b) Q → P b H') : OutO X H o P := by
 match o, h with
 | some (.exc _), h => exact h
 | some (.ok d), h => exact fun H1 e => hp d H1 e (Out.mono e h)
theorem yL {a : Expr} {lo hi : Option Expr} {fa : FnE} {fl fh : FnO} {p2 pos : Pos} (ha : FE X a fa) (hl : FO X lo fl) (hh : FO X hi fh) : FE X (.Subscript a (.Slice lo hi none p2) pos) (um fa fl fh) :=
 cP (rT (sl_str.or u8) ha.h hl.h hh.h) fun σ H Q ρ E o => ⟨ρ, E, Out.bind o fun d v H1 e1 r1 o1 => ⟨ρ, E.mono e1, ka o1 fun l H2 e2 o2 => ⟨ρ, (E.mono e1).mono e2, ka o2 fun u H3 e3 o3 => by
  have r3 := Rep.mono e3 d v (Rep.mono e2 d v r1)
  cases d <;> try exact (show False from o3).elim
  · rename_i z
    unfold DD at o3
    dsimp only at o3
    split at o3
    · rename_i hz
      exact .inl ⟨z, r3, bO hz, o3 _ H3 (.refl H3) rfl⟩
    · exact o3.elim
  · rename_i ds
    obtain ⟨a', xs, rfl, h1, h2⟩ := r3.lstE
    refine .inr ⟨a', xs, rfl, SqL.of h1, fun p hp => o3 _ _ (aF hp _) ⟨p, _, rfl, av, Reps.mono (aF hp _) _ _ ?_⟩⟩
    unfold yb DC
    rw [h2.length]
    exact (h2.drop _).take _⟩⟩⟩
def eI : List Dv → Option (Rs Dv)
 | [.str z] => if z.length ≤ 100000 then some (.ok (.int z.length)) else none
 | [.lst xs] => some (.ok (.int xs.length))
 | [.tup xs] => some (.ok (.int xs.length))
 | [.scr ns] => some (.ok (.int ns.length))
 | _ => none
def fB1 (g : List Dv → Option (Rs Dv)) (ga : FnA) : FnE := fun ρ => bnd (ga ρ) g
variable {x : Str} {p pos : Pos} {e : Expr} {es : List Expr} {ga : FnA}
theorem da {K : PySem.W.Frag} {H : Hp} {d : Dv} {vs : List V} (r : Reps K H [d] vs) : ∃ v, vs = [v] ∧ Rep K H d v := by
 obtain ⟨v, us, rfl, r1, r2⟩ : ∃ v us, vs = v :: us ∧ Rep K H d v ∧ Reps K H [] us := r
 cases (show us = [] from r2)
 exact ⟨v, rfl, r1⟩
theorem BS {K : PySem.W.Frag} {H : Hp} {d d2 : Dv} {vs : List V} (r : Reps K H [d, d2] vs) : ∃ v v2, vs = [v, v2] ∧ Rep K H d v ∧ Rep K H d2 v2 := by
 obtain ⟨v, us, rfl, r1, r2⟩ : ∃ v us, vs = v :: us ∧ Rep K H d v ∧ Reps K H [d2] us := r
 obtain ⟨v2, rfl, r3⟩ := da r2
 exact ⟨v, v2, rfl, r1, r3⟩
theorem yM (hg : Gl X "len") (hm : X.mg "len" = none) (ha : FA X (e :: es) ga) (he : starEach (e :: es) X.env = (false, eval e X.env) :: starEach es X.env := by kernel_rfl) (hpl : (backTo pos (starEach es X.env)).any (·.1) = false := by kernel_rfl) : FE X (.Call (.Name "len" p) (e :: es) [] pos) (fB1 eI ga) :=
 cP (eG rS hg hm PySem.boot_len ha.h (by decide) (by decide) he hpl) fun σ H Q ρ E o => ⟨ρ, E, OutA.bind o fun ds vs H1 e1 rs o1 => by
  unfold eI at o1
  split at o1
  · rename_i z
    split at o1
    · rename_i hz
      obtain ⟨v, rfl, r⟩ := da rs
      cases (show v = .str z from r)
      exact ⟨_, _, rfl, ⟨bO hz, rfl⟩, o1 _ H1 (.refl H1) rfl⟩
    · exact o1.elim
  · rename_i xs
    obtain ⟨v, rfl, r⟩ := da rs
    obtain ⟨a, ws, rfl, h1, h2⟩ := r.lstE
    exact ⟨_, _, rfl, .inl ⟨ws, SqL.of h1, rfl⟩, o1 _ H1 (.refl H1) (by rw [h2.length]; rfl)⟩
  · rename_i xs
    obtain ⟨v, rfl, r⟩ := da rs
    obtain ⟨a, ws, rfl, h1, h2⟩ := r.tupE
    exact ⟨_, _, rfl, .inr ⟨ws, SqT.of h1, rfl⟩, o1 _ H1 (.refl H1) (by rw [h2.length]; rfl)⟩
  · rename_i ns
    obtain ⟨v, rfl, r⟩ := da rs
    obtain ⟨a, rfl, h1⟩ := r.scrE
    exact ⟨_, _, rfl, .inl ⟨_, h1, rfl⟩, o1 _ H1 (.refl H1) (by rw [List.length_map]; rfl)⟩
  · exact o1.elim⟩
def ii : List Dv → Option (List Bool)
 | [] => some []
 | .bl b :: r => (match ii r with | some bs => some (b :: bs) | none => none)
 | _ => none
def iT : List Dv → Option (Rs Dv)
 | [.lst xs] => (match ii xs with | some bs => some (.ok (.bl (bs.all id))) | none => none)
 | _ => none
theorem mR {K : PySem.W.Frag} {H : Hp} : ∀ {ds : List Dv} {vs : List V} {us : List Value} {bs : List Bool}, Reps K H ds vs → Vals vs us → ii ds = some bs → us = bs.map Value.bool
 | [], vs, us, bs, r, q, h => by
  cases (show vs = [] from r)
  cases q
  cases h
  rfl
 | d :: ds, vs, us, bs, r, q, h => by
  obtain ⟨v, ws, rfl, r1, r2⟩ : ∃ v us, vs = v :: us ∧ Rep K H d v ∧ Reps K H ds us := r
  cases q with
  | cons q1 q2 =>
   cases d <;> try (cases h; done)
   rename_i b
   simp only [ii] at h
   cases hb : ii ds with
   | none => rw [hb] at h; cases h
   | some bs' =>
    rw [hb] at h
    cases h
    cases (show v = .bl b from r1)
    cases q1
    rw [mR r2 q2 hb]
    rfl
theorem sd : CallR X (.builtin "all") (fun xs H Q => ∃ a vs bs ds, xs = [.ref a] ∧ H a = some (.lst vs) ∧ Reps X.K H ds vs ∧ ii ds = some bs ∧ X.calm = true ∧ Q (.bl (bs.all id)) H) := by
 intro pins s σ H xs us Q I r h
 obtain ⟨a, vs, bs, ds, rfl, h1, h2, h3, hc, q⟩ := h
 obtain ⟨u, rfl, ru⟩ := dQ r
 cases ru
 obtain ⟨z, its, n, rv, hl, e⟩ := I.lstM h1
 have eb := mR h2 rv h3
 subst eb
 have hL : s.heap.IsList a (bs.map Value.bool).toArray := ⟨_, e, rfl, _, rfl⟩
 have hlt : a < s.heap.objs.size := Heap.lt_size e
 refine call_all_walk (wpAny_pyIter_list hL ?_)
 refine ⟨s.heap.objs.size, [s.heap.objs.size, a], [s.heap.objs.size], (bs.map Value.bool).toArray.size, _, _, fun i => (bs[i]?).getD true, rfl, Walks.list (A := X.A.in1) (I.ok.hd hc) _ a (Nat.ne_of_lt hlt) (bs.map Value.bool).toArray,
  ⟨⟨_, Heap.get?_push_size _ rfl, rfl, rfl⟩, hL.push _⟩, fun i v s' Q' E' hP hQ => ?_, fun h' tk hk => ?_⟩
 · have hP' : (bs.map Value.bool)[i]? = some v := by simpa using hP
   rw [List.getElem?_map] at hP'
   cases hb : bs[i]? with
   | none => rw [hb] at hP'; cases hP'
   | some b =>
    rw [hb] at hP'
    cases hP'
    have hQ2 : Q' ((bs[i]?).getD true) s' := hQ
    rw [hb] at hQ2
    exact wpAny_truthy_bool hQ2
 · have e2 : ((List.range (bs.map Value.bool).toArray.size).all fun i => (bs[i]?).getD true) = bs.all id := by
    rw [List.size_toArray, List.length_map]
    rw [Bool.eq_iff_iff]
    simp only [List.all_eq_true, List.mem_range, id]
    constructor
    · intro hh b hb
      obtain ⟨i, hi, rfl⟩ := List.mem_iff_getElem.mp hb
      simpa [hi] using hh i hi
    · intro hh i hi
      simp only [List.getElem?_eq_getElem hi, Option.getD_some]
      exact hh _ (List.getElem_mem hi)
   rw [e2]
   refine ⟨.bl _, H, I.kept fun b x eb => hk b x (fun hm => ?_) (Heap.get?_push_of_some _ eb), rfl, q⟩
   rw [List.mem_singleton.mp hm] at eb
   exact Nat.lt_irrefl _ (Heap.lt_size eb)
theorem yN (hc : X.calm = true) (hg : Gl X "all") (hm : X.mg "all" = none) (ha : FA X (e :: es) ga) (he : starEach (e :: es) X.env = (false, eval e X.env) :: starEach es X.env := by kernel_rfl) (hpl : (backTo pos (starEach es X.env)).any (·.1) = false := by kernel_rfl) : FE X (.Call (.Name "all" p) (e :: es) [] pos) (fB1 iT ga) :=
 cP (eG sd hg hm PyProof.Rows.boot_all ha.h (by decide) (by decide) he hpl) fun σ H Q ρ E o => ⟨ρ, E, OutA.bind o fun ds vs H1 e1 rs o1 => by
  unfold iT at o1
  split at o1
  · rename_i xs
    split at o1
    · rename_i bs hb
      obtain ⟨v, rfl, r⟩ := da rs
      obtain ⟨a, ws, rfl, h1, h2⟩ := r.lstE
      exact ⟨a, ws, bs, xs, rfl, h1, h2, hb, hc, o1 _ H1 (.refl H1) rfl⟩
    · exact o1.elim
  · exact o1.elim⟩
def tyD : Dv → String
 | .non => "NoneType"
 | .bl _ => "bool"
 | .int _ => "int"
 | .str _ => "str"
 | .tup _ => "tuple"
 | .lst _ => "list"
 | .scr _ => "list"
 | .exn _ => "object"
end
section
variable {X : Cx} {p pos apos cpos pT : Pos} {e a o : Expr} {es : List Expr} {ga : FnA} {fa fo : FnE}
theorem vv {K : PySem.W.Frag} {H : Hp} {d : Dv} {v : V} (r : Rep K H d v) (hs : ∀ ns, d ≠ .scr ns) (hx : ∀ c, d ≠ .exn c) : mG K H v (.type (tyD d)) := by
 cases d with
 | non => cases (show v = .non from r); exact .non
 | bl b => cases (show v = .bl b from r); exact .bl b
 | int b => cases (show v = .int b from r); exact .int b
 | str b => cases (show v = .str b from r); exact .str b
 | tup ds => obtain ⟨a, xs, rfl, h, _⟩ := r.tupE; exact .tup h
 | lst ds => obtain ⟨a, xs, rfl, h, _⟩ := r.lstE; exact .lst h
 | scr ns => exact absurd rfl (hs ns)
 | exn c => exact absurd rfl (hx c)
theorem se (T : String) : CallR X (.builtin "isinstance") (fun xs H Q => ∃ x t b, xs = [x, .ty T] ∧ mG X.K H x t ∧ PySem.W.kitOne X.K t (.type T) = some b ∧ Q (.bl b) H) := by
 intro pins s σ H xs us Q I r h
 obtain ⟨x, t, b, rfl, ty, hk, q⟩ := h
 obtain ⟨u, w', rfl, ru, rw'⟩ := x4 r
 cases (show w' = Value.type T from rw')
 exact o8 I ru ty hk fun tk => ⟨.bl b, H, I.tok tk, rfl, q⟩
def cB (tb : Dv → Bool) : Dv → Option (Rs Dv)
 | .scr _ => none
 | .exn _ => none
 | d => some (.ok (.bl (tb d)))
theorem kb {T : String} {tb : Dv → Bool} (hk : ∀ K d, PySem.W.kitOne K (.type (tyD d)) (.type T) = some (tb d)) (hT : bootBuiltins (Str.ofString T) = some (.type T)) (hn : Str.ofString T ≠ "__name__") (hdT : (Str.ofString T == ("__debug__" : Str)) = false)
 (hg : Gl X "isinstance") (hm : X.mg "isinstance" = none) (hgT : Gl X (Str.ofString T)) (hmT : X.mg (Str.ofString T) = none) (ha : FE X a fa)
 (hs1 : starEach [a, .Name (Str.ofString T) pT] X.env = (false, eval a X.env) :: starEach [.Name (Str.ofString T) pT] X.env := by kernel_rfl) (hs2 : starEach [.Name (Str.ofString T) pT] X.env = (false, eval (.Name (Str.ofString T) pT) X.env) :: starEach [] X.env := by kernel_rfl)
 (hpl : (backTo pos (starEach [.Name (Str.ofString T) pT] X.env)).any (·.1) = false := by kernel_rfl) :
 FE X (.Call (.Name "isinstance" p) [a, .Name (Str.ofString T) pT] [] pos) (f1 (cB tb) fa) :=
 cP (eG (se T) hg hm PyProof.Rows.boot_isinstance (fg ha.h (fg (oM (v := .ty T) hgT hmT hT rfl hn hdT) mH hs2) hs1) (by decide) (by decide) hs1 hpl) fun σ H Q ρ E o => ⟨ρ, E, Out.bind o fun d v H1 e1 r o1 => by
  show ∃ x t b, [v, V.ty T] = [x, .ty T] ∧ _
  cases d with
  | scr ns => exact o1.elim
  | exn c => exact o1.elim
  | _ => exact ⟨v, _, _, rfl, vv r (fun ns z => by cases z) (fun c z => by cases z), hk X.K _, o1 _ H1 (.refl H1) rfl⟩⟩
def bB : Dv → Bool
 | .str _ => true
 | _ => false
theorem vw (K : PySem.W.Frag) (d : Dv) : PySem.W.kitOne K (.type (tyD d)) (.type "str") = some (bB d) := by cases d <;> kernel_rfl
def br : Dv → Bool
 | .tup _ => true
 | _ => false
theorem vx (K : PySem.W.Frag) (d : Dv) : PySem.W.kitOne K (.type (tyD d)) (.type "tuple") = some (br d) := by cases d <;> kernel_rfl
def aI : Dv → Bool
 | .bl _ => true
 | _ => false
theorem sf (K : PySem.W.Frag) (d : Dv) : PySem.W.kitOne K (.type (tyD d)) (.type "bool") = some (aI d) := by cases d <;> kernel_rfl
def fM (g : Str → List Dv → Option (Rs Dv)) (fo : FnE) (ga : FnA) : FnE := fun ρ => bnd (fo ρ) fun x => match x with
 | .str i => bnd (ga ρ) fun xs => g i xs
 | _ => none
def ls (h : Str → Str → Bool) : Str → List Dv → Option (Rs Dv)
 | x, [.str y] => some (.ok (.bl (h x y)))
 | _, _ => none
def AV (h : Str → Str → Int) : Str → List Dv → Option (Rs Dv)
 | x, [.str y] => some (.ok (.int (h x y)))
 | _, _ => none
def vy (h : Str → Str → Bool) : V → List V → Hp → VK → Prop := fun x xs H Q => ∃ i j, x = .str i ∧ xs = [.str j] ∧ Q (.bl (h i j)) H
def yO (h : Str → Str → Int) : V → List V → Hp → VK → Prop := fun x xs H Q => ∃ i j, x = .str i ∧ xs = [.str j] ∧ Q (.int (h i j)) H
theorem BU : MtR X "str.startswith" (vy Txt.startswith) := by
 intro pins s σ H x xs v us Q I rx rs h
 obtain ⟨i, j, rfl, rfl, q⟩ := h
 obtain ⟨t, rfl⟩ := rx
 obtain ⟨u, rfl, ru⟩ := dQ rs
 obtain ⟨t', rfl⟩ := ru
 exact SC.startswith ⟨.bl _, H, I, rfl, q⟩
theorem BV : MtR X "str.endswith" (vy Txt.endswith) := by
 intro pins s σ H x xs v us Q I rx rs h
 obtain ⟨i, j, rfl, rfl, q⟩ := h
 obtain ⟨t, rfl⟩ := rx
 obtain ⟨u, rfl, ru⟩ := dQ rs
 obtain ⟨t', rfl⟩ := ru
 exact SC.endswith ⟨.bl _, H, I, rfl, q⟩
theorem vz : MtR X "str.find" (yO Txt.find) := by
 intro pins s σ H x xs v us Q I rx rs h
 obtain ⟨i, j, rfl, rfl, q⟩ := h
 obtain ⟨t, rfl⟩ := rx
 obtain ⟨u, rfl, ru⟩ := dQ rs
 obtain ⟨t', rfl⟩ := ru
 exact SC.find ⟨.int _, H, I.tok _, ⟨_, rfl⟩, q⟩
theorem vA {name : Str} {id : String} {r : V → List V → Hp → VK → Prop} {g : Str → List Dv → Option (Rs Dv)} (slot : Slot "str" name id) (hty : typeOf (.builtin id) = pure (.type "method_descriptor")) (hm : MtR X id r)
 (hg : ∀ i ds vs H Q, Reps X.K H ds vs → Out X H (g i ds) Q → r (.str i) vs H Q) (ho : FE X o fo) (ha : FA X (e :: es) ga)
 (hbase : attributeBase o name X.env (eval o X.env) = eval o X.env := by kernel_rfl)
 (hfew : ((backTo cpos (starEach (e :: es) X.env)).all (fun x => !x.1) && (backToKw cpos (keywordEach [] X.env)).all (fun x => x.1.isSome)
   && decide ((e :: es).length + ([] : List Keyword).length + (if ([] : List Keyword).isEmpty then 0 else 1) < 30)) = true := by kernel_rfl)
 (hline : (apos.endLine == cpos.line) = true := by kernel_rfl) (hs : starEach (e :: es) X.env = (false, eval e X.env) :: starEach es X.env := by kernel_rfl) (hplain : (backTo cpos (starEach es X.env)).any (·.1) = false := by kernel_rfl) :
 FE X (.Call (.Attribute o name apos) (e :: es) [] cpos) (fM g fo ga) :=
 cP (rV PySem.F.plainAttrs_str slot hty hm ho.h ha.h hbase hfew hline hs hplain) fun σ H Q ρ E o => ⟨ρ, E, Out.bind o fun d v H1 e1 rd o1 => by
  cases d <;> try exact (show False from o1).elim
  rename_i i
  cases (show v = .str i from rd)
  exact ⟨rfl, ρ, E.mono e1, OutA.bind o1 fun ds vs H2 e2 rs o2 => hg i ds vs H2 Q rs o2⟩⟩
theorem uo {h : Str → Str → Bool} (i : Str) (ds : List Dv) (vs : List V) (H : Hp) (Q : VK) (rs : Reps X.K H ds vs) (o : Out X H (ls h i ds) Q) : vy h (.str i) vs H Q := by
 unfold ls at o
 split at o
 · rename_i j
   obtain ⟨w, rfl, rw'⟩ := da rs
   cases (show w = .str j from rw')
   exact ⟨i, j, rfl, rfl, o _ H (.refl H) rfl⟩
 · exact o.elim
theorem yP {h : Str → Str → Int} (i : Str) (ds : List Dv) (vs : List V) (H : Hp) (Q : VK) (rs : Reps X.K H ds vs) (o : Out X H (AV h i ds) Q) : yO h (.str i) vs H Q := by
 unfold AV at o
 split at o
 · rename_i j
   obtain ⟨w, rfl, rw'⟩ := da rs
   cases (show w = .str j from rw')
   exact ⟨i, j, rfl, rfl, o _ H (.refl H) rfl⟩
 · exact o.elim
def DE (K : PySem.W.Frag) : R2 := fun x y H Q => ∃ (a b : Addr) (ns : List Int), x = .ref a ∧ y = .ref b ∧ SqL K H a (ns.map V.int) ∧ H b = some (.lst []) ∧ Q (.bl ns.isEmpty) H
theorem BW (hu : X.A.units < cLine) : OpR X (compareOp .Eq) (DE X.K) := by
 intro pins s σ H x y v u Q I rx ry h
 obtain ⟨a, b, ns, rfl, rfl, h1, h2, q⟩ := h
 cases rx
 cases ry
 obtain ⟨its, r, pl, hz⟩ := I.list h1
 obtain ⟨z2, its2, n2, r2, hl2, e2⟩ := I.lstM h2
 cases r2
 have hb : s.heap.IsList b #[] := ⟨_, e2, rfl, _, rfl⟩
 have hl := r.length
 cases ns with
 | nil =>
  have e0 : its = [] := by cases its with | nil => rfl | cons _ _ => simp at hl
  subst e0
  exact SeqAt.eq_listAt (e := fun _ => true) pl.isList hb rfl hu (fun i hi => absurd hi (by simp)) (by first | exact ⟨.bl _, H, I, rfl, q⟩ | (refine ⟨.bl _, H, I, ?_, q⟩; simp [RelV]))
 | cons n ns =>
  refine SeqAt.eq_list_lengthsAt pl.isList hb ?_ hu ⟨.bl _, H, I, rfl, q⟩
  have : 0 < its.length := by rw [← hl]; simp
  simp
  exact fun z => by rw [z] at this; simp at this
def AW : Dv → Dv → Option (Rs Dv)
 | .scr ns, .lst [] => some (.ok (.bl ns.isEmpty))
 | _, _ => none
theorem BX : GOp X (DE X.K) AW := by
 intro dx dy x y H Q rx ry o
 unfold AW at o
 split at o
 · rename_i ns
   obtain ⟨a, rfl, h1⟩ := rx.scrE
   obtain ⟨b, xs, rfl, h2, h3⟩ := ry.lstE
   cases (show xs = [] from h3)
   exact ⟨a, b, ns, rfl, rfl, h1, h2, o _ H (.refl H) rfl⟩
 · exact o.elim
end
end FD
namespace FD
open PySem
theorem yQ : bootBuiltins (Str.ofString "str") = some (.type "str") := PyProof.Rows.boot_str
theorem sg : bootBuiltins (Str.ofString "tuple") = some (.type "tuple") := by decide +kernel
theorem vB : bootBuiltins (Str.ofString "bool") = some (.type "bool") := by decide +kernel
end FD
namespace FD
open PySem PySem.Spec PyProof.Rows L2
mutual
def dE : Dv → PyData
 | .non => .none
 | .bl b => .bool b
 | .int i => .int i
 | .str x => .str x
 | .tup xs => .tuple (toPys xs)
 | .lst xs => .list (toPys xs)
 | .scr ns => .list (ns.map PyData.int)
 | .exn _ => .dict []
def toPys : List Dv → List PyData
 | [] => []
 | d :: ds => dE d :: toPys ds
end
section
variable {X : Cx} {pins : List (Addr × Obj)} {σ : L2.St} {H : Hp} {s : Shared}
theorem iU : ∀ {ns : List Int} {us : List Value}, Vals (ns.map V.int) us → ∃ as, ReadsAll s.heap us (ns.map PyData.int) as
 | [], us, r => by cases r; exact ⟨_, .nil⟩
 | n :: ns, us, r => by
  cases r with
  | cons r1 r2 =>
   obtain ⟨t, rfl⟩ := r1
   obtain ⟨as, q⟩ := iU r2
   exact ⟨_, .cons (.int n t) q⟩
mutual
theorem Rep.reads (I : Inv X pins σ H s) : ∀ (d : Dv) (v : V) (u : Value), Rep X.K H d v → RelV v u → (dE d).canLay0 = true → ∃ as, Reads s.heap u (dE d) as
 | .non, v, u, r, q, hz0 => by cases (show v = .non from r); cases (show u = Value.none from q); exact ⟨_, .none⟩
 | .bl b, v, u, r, q, hz0 => by cases (show v = .bl b from r); cases (show u = Value.bool b from q); exact ⟨_, .bool b⟩
 | .int i, v, u, r, q, hz0 => by cases (show v = .int i from r); obtain ⟨t, rfl⟩ := (show ∃ t, u = Value.int i t from q); exact ⟨_, .int i t⟩
 | .str x, v, u, r, q, hz0 => by cases (show v = .str x from r); obtain ⟨t, rfl⟩ := (show ∃ t, u = Value.str x t from q); exact ⟨_, .str x t⟩
 | .tup ds, v, u, r, q, hz0 => by
  obtain ⟨a, xs, rfl, h, rs⟩ := r.tupE
  cases (show u = Value.ref a from q)
  obtain ⟨its, rv, ⟨o, e, c, n, d⟩, hz⟩ := I.tuple (SqT.of h)
  obtain ⟨as, ra⟩ := Reps.reads I ds xs its rs rv (by simpa [dE, PyData.canLay0] using hz0)
  exact ⟨as, .tuple e c d (by simpa using ra)⟩
 | .lst ds, v, u, r, q, hz0 => by
  obtain ⟨a, xs, rfl, h, rs⟩ := r.lstE
  cases (show u = Value.ref a from q)
  obtain ⟨z, its, n, rv, hl, e⟩ := I.lstM h
  obtain ⟨as, ra⟩ := Reps.reads I ds xs its rs rv (by simpa [dE, PyData.canLay0] using hz0)
  exact ⟨a :: as, .list e rfl rfl (by simpa using ra)⟩
 | .scr ns, v, u, r, q, hz0 => by
  obtain ⟨a, rfl, h⟩ := r.scrE
  cases (show u = Value.ref a from q)
  obtain ⟨its, rv, ⟨o, n, e, c, hd, d⟩, hz⟩ := I.list h
  obtain ⟨as, ra⟩ := iU (s := s) rv
  exact ⟨a :: as, .list e c d (by simpa using ra)⟩
 | .exn c, v, u, r, q, hz0 => by simp [dE, PyData.canLay0] at hz0
theorem Reps.reads (I : Inv X pins σ H s) : ∀ (ds : List Dv) (vs : List V) (us : List Value), Reps X.K H ds vs → Vals vs us → PyData.canLayAll0 (toPys ds) = true → ∃ as, ReadsAll s.heap us (toPys ds) as
 | [], vs, us, r, q, _ => by cases (show vs = [] from r); cases q; exact ⟨_, .nil⟩
 | d :: ds, vs, us, r, q, hz0 => by
  obtain ⟨v, ws, rfl, r1, r2⟩ : ∃ v us, vs = v :: us ∧ Rep X.K H d v ∧ Reps X.K H ds us := r
  cases q with
  | cons q1 q2 =>
   have hz1 : (dE d).canLay0 = true ∧ PyData.canLayAll0 (toPys ds) = true := by simpa [toPys, PyData.canLayAll0] using hz0
   obtain ⟨as, a⟩ := Rep.reads I d v _ r1 q1 hz1.1
   obtain ⟨bs, b⟩ := Reps.reads I ds ws _ r2 q2 hz1.2
   exact ⟨_, .cons a b⟩
end
end
section
variable {X : Cx}
def okP (d : Dv) : Bool := SeqAt.shaped (dE d)
def rPy (X : Cx) (neg : Bool) : R2 := fun x y H Q => ∃ dx dy, Rep X.K H dx x ∧ Rep X.K H dy y ∧ okP dx = true ∧ okP dy = true ∧ Q (.bl (if neg then !PyData.eqv (dE dx) (dE dy) else PyData.eqv (dE dx) (dE dy))) H
theorem yR (hu : X.A.units + 64 < cLine) : OpR X (compareOp .Eq) (rPy X false) := by
 intro pins s σ H x y v u Q I rx ry h
 obtain ⟨dx, dy, qx, qy, hx, hy, q⟩ := h
 obtain ⟨as, ra⟩ := Rep.reads I dx x v qx rx (Bool.and_eq_true_iff.mp hx).1
 obtain ⟨bs, rb⟩ := Rep.reads I dy y u qy ry (Bool.and_eq_true_iff.mp hy).1
 exact SeqAt.compareEq_shaped ra rb hx hy hu ⟨.bl _, H, I, rfl, q⟩
theorem yS (hu : X.A.units + 64 < cLine) : OpR X (compareOp .NotEq) (rPy X true) := by
 intro pins s σ H x y v u Q I rx ry h
 obtain ⟨dx, dy, qx, qy, hx, hy, q⟩ := h
 obtain ⟨as, ra⟩ := Rep.reads I dx x v qx rx (Bool.and_eq_true_iff.mp hx).1
 obtain ⟨bs, rb⟩ := Rep.reads I dy y u qy ry (Bool.and_eq_true_iff.mp hy).1
 exact SeqAt.compareNe_shaped ra rb hx hy hu ⟨.bl _, H, I, rfl, q⟩
def eqX (x y : Dv) : Option (Rs Dv) := match eqS x y with
 | some b => some (.ok (.bl b))
 | none => if okP x && okP y then some (.ok (.bl (PyData.eqv (dE x) (dE y)))) else none
def neX (x y : Dv) : Option (Rs Dv) := match eqS x y with
 | some b => some (.ok (.bl (!b)))
 | none => if okP x && okP y then some (.ok (.bl (!PyData.eqv (dE x) (dE y)))) else none
def DF (X : Cx) : R2 := fun x y H Q => rEq x y H Q ∨ rPy X false x y H Q
def DG (X : Cx) : R2 := fun x y H Q => rNe x y H Q ∨ rPy X true x y H Q
theorem yT (hu : X.A.units + 64 < cLine) : OpR X (compareOp .Eq) (DF X) := op_eq.or (yR hu)
theorem BY (hu : X.A.units + 64 < cLine) : OpR X (compareOp .NotEq) (DG X) := op_ne.or (yS hu)
theorem yU : GOp X (DF X) eqX := by
 intro dx dy x y H Q rx ry o
 unfold eqX at o
 split at o
 · rename_i b hb
   obtain ⟨h1, h2⟩ := ui rx ry hb
   exact .inl ⟨h1, by rw [h2]; exact o _ H (.refl H) rfl⟩
 · split at o
   · rename_i hc
     rw [Bool.and_eq_true] at hc
     exact .inr ⟨dx, dy, rx, ry, hc.1, hc.2, o _ H (.refl H) rfl⟩
   · exact o.elim
theorem BZ : GOp X (DG X) neX := by
 intro dx dy x y H Q rx ry o
 unfold neX at o
 split at o
 · rename_i b hb
   obtain ⟨h1, h2⟩ := ui rx ry hb
   exact .inl ⟨h1, by rw [h2]; exact o _ H (.refl H) rfl⟩
 · split at o
   · rename_i hc
     rw [Bool.and_eq_true] at hc
     exact .inr ⟨dx, dy, rx, ry, hc.1, hc.2, o _ H (.refl H) rfl⟩
   · exact o.elim
def ltX : Dv → Dv → Option (Rs Dv)
 | .int i, .int j => some (.ok (.bl (decide (i < j))))
 | .str x, .str y => some (.ok (.bl (decide (x.cps.toList < y.cps.toList))))
 | _, _ => none
def DH : R2 := fun x y H Q => rI0 (fun i j => .bl (decide (i < j))) x y H Q ∨ ∃ i j, x = .str i ∧ y = .str j ∧ Q (.bl (decide (i.cps.toList < j.cps.toList))) H
theorem vC : OpR X (compareOp .Lt) DH := op_lt.or oY
theorem vD : GOp X DH ltX := by
 intro dx dy x y H Q rx ry o
 cases dx <;> cases dy <;> try exact (show False from o).elim
 · rename_i i j
   exact .inl ⟨i, j, rx, ry, o _ H (.refl H) rfl⟩
 · rename_i i j
   exact .inr ⟨i, j, rx, ry, o _ H (.refl H) rfl⟩
theorem kc : ∀ (ps : List Str) (k : Nat), Vals (ps.map V.str) (strsFrom k ps)
 | [], _ => .nil
 | p :: ps, k => .cons ⟨k, rfl⟩ (kc ps (k + 1))
theorem ke {K : PySem.W.Frag} {H : Hp} : ∀ ps : List Str, Reps K H (ps.map Dv.str) (ps.map V.str)
 | [] => rfl
 | p :: ps => ⟨.str p, ps.map V.str, rfl, rfl, ke ps⟩
def iV : Str → List Dv → Option (Rs Dv)
 | x, [.str y] => if y.length ≠ 0 ∧ x.length ≤ 100000 ∧ (Txt.split x y).length ≤ 100000 then some (.ok (.lst ((Txt.split x y).map Dv.str))) else none
 | _, _ => none
def uq : V → List V → Hp → VK → Prop := fun x xs H Q => ∃ i j, x = .str i ∧ xs = [.str j] ∧ j.length ≠ 0 ∧ i.length ≤ sizeLine ∧ (Txt.split i j).length ≤ sizeLine ∧ ∀ p, H p = none → Q (.ref p) (upd H p (.lst ((Txt.split i j).map V.str)))
theorem sh : MtR X "str.split" uq := by
 intro pins s σ H x xs v us Q I rx rs h
 obtain ⟨i, j, rfl, rfl, hj, hi, hn, q⟩ := h
 obtain ⟨t, rfl⟩ := rx
 obtain ⟨u, rfl, ru⟩ := dQ rs
 obtain ⟨t', rfl⟩ := ru
 have hy : (j.length == 0) = false := by simpa using hj
 have one : ∀ {s' : Shared}, s' = { s with heap := s.heap.push { cls := .type "list", data := .seq [Value.str i t].toArray } } → Txt.split i j = [i] → EP X pins σ Q (.ref s.heap.objs.size) s' := fun e e2 => by
  subst e
  rw [e2] at q
  exact ⟨.ref _, _, I.lnew (its := [Value.str i t]) (ys := [V.str i]) (t' := s.toks) (.cons ⟨t, rfl⟩ .nil) (by show 1 ≤ sizeLine; decide), rfl, q _ I.fresh⟩
 cases h1 : (decide (i.length < j.length) || decide (Builtin.Str.strKind i < Builtin.Str.strKind j))
 · cases hf : (Builtin.Str.occurrences i j 0 i.length (i.length + 1)).isEmpty
   · have e2 : Txt.split i j = Builtin.Str.partsBetween i (Builtin.Str.occurrences i j 0 i.length (i.length + 1)) j.length := by
      unfold Txt.split
      rw [if_neg (by rw [h1]; exact Bool.false_ne_true), if_neg (by rw [hf]; exact Bool.false_ne_true)]
     rw [e2] at q hn
     refine call_meets F.slot_str_split (typeIs_str _ _ _) F.entry_str_split (F.args_str_split_2 _ _) (meets_str_split_sep i j t t' h1 hy hf hi hn) ?_
     exact ⟨.ref _, _, I.lnew (t' := _) (kc _ _) (by rw [List.length_map]; exact hn), rfl, q _ I.fresh⟩
   · refine call_meets F.slot_str_split (typeIs_str _ _ _) F.entry_str_split (F.args_str_split_2 _ _) (meets_str_split_not_found i j t t' h1 hy hf) ?_
     exact one rfl (by unfold Txt.split; rw [if_neg (by rw [h1]; exact Bool.false_ne_true), if_pos hf])
 · refine call_meets F.slot_str_split (typeIs_str _ _ _) F.entry_str_split (F.args_str_split_2 _ _) (meets_str_split_cannot_occur i j t t' h1) ?_
   exact one rfl (by unfold Txt.split; rw [if_pos h1])
theorem vE (i : Str) (ds : List Dv) (vs : List V) (H : Hp) (Q : VK) (rs : Reps X.K H ds vs) (o : Out X H (iV i ds) Q) : uq (.str i) vs H Q := by
 unfold iV at o
 split at o
 · rename_i j
   split at o
   · rename_i hc
     obtain ⟨w, rfl, rw'⟩ := da rs
     cases (show w = .str j from rw')
     exact ⟨i, j, rfl, rfl, hc.1, bO hc.2.1, bO hc.2.2, fun p hp => o _ _ (aF hp _) ⟨p, _, rfl, av, ke _⟩⟩
   · exact o.elim
 · exact o.elim
def nZ : List Dv → Option (List Str)
 | [] => some []
 | .str x :: r => (match nZ r with | some xs => some (x :: xs) | none => none)
 | _ => none
def pG : Str → List Dv → Option (Rs Dv)
 | x, [.lst ds] => (match nZ ds with
  | some ts => if JoinOk x ts = true then some (.ok (.str (Txt.join x ts))) else none
  | none => none)
 | _, _ => none
def yV (K : PySem.W.Frag) : V → List V → Hp → VK → Prop := fun x xs H Q => ∃ i a vs ds ts, x = .str i ∧ xs = [.ref a] ∧ H a = some (.lst vs) ∧ Reps K H ds vs ∧ nZ ds = some ts ∧ JoinOk i ts = true ∧ Q (.str (Txt.join i ts)) H
theorem iW {K : PySem.W.Frag} {H : Hp} : ∀ {ds : List Dv} {vs : List V} {us : List Value} {ts : List Str}, Reps K H ds vs → Vals vs us → nZ ds = some ts → ∃ l : List (Str × Tok), us = strValues l ∧ l.map (·.1) = ts
 | [], vs, us, ts, r, q, h => by
  cases (show vs = [] from r)
  cases q
  cases h
  exact ⟨[], rfl, rfl⟩
 | d :: ds, vs, us, ts, r, q, h => by
  obtain ⟨v, ws, rfl, r1, r2⟩ : ∃ v us, vs = v :: us ∧ Rep K H d v ∧ Reps K H ds us := r
  cases q with
  | cons q1 q2 =>
   cases d <;> try (cases h; done)
   rename_i b
   simp only [nZ] at h
   cases hb : nZ ds with
   | none => rw [hb] at h; cases h
   | some bs' =>
    rw [hb] at h
    cases h
    cases (show v = .str b from r1)
    obtain ⟨t, rfl⟩ := q1
    obtain ⟨l, e1, e2⟩ := iW r2 q2 hb
    exact ⟨(b, t) :: l, by rw [e1]; rfl, by rw [List.map_cons, e2]⟩
theorem vF : MtR X "str.join" (yV X.K) := by
 intro pins s σ H x xs v us Q I rx rs h
 obtain ⟨i, a, vs, ds, ts, rfl, rfl, h1, h2, h3, h4, q⟩ := h
 obtain ⟨t, rfl⟩ := rx
 obtain ⟨u, rfl, ru⟩ := dQ rs
 cases ru
 obtain ⟨z, its, n, rv, hl, e⟩ := I.lstM h1
 obtain ⟨l, e1, e2⟩ := iW h2 rv h3
 subst e1
 exact SC.join ⟨_, e, rfl, _, rfl⟩ e2 h4 fun t' k => ⟨.str _, H, I.tok _, ⟨_, rfl⟩, q⟩
theorem yW (i : Str) (ds : List Dv) (vs : List V) (H : Hp) (Q : VK) (rs : Reps X.K H ds vs) (o : Out X H (pG i ds) Q) : yV X.K (.str i) vs H Q := by
 unfold pG at o
 split at o
 · rename_i es
   split at o
   · rename_i ts ht
     split at o
     · rename_i hj
       obtain ⟨w, rfl, rw'⟩ := da rs
       obtain ⟨a, xs, rfl, h1, h2⟩ := rw'.lstE
       exact ⟨i, a, xs, es, ts, rfl, rfl, h1, h2, ht, hj, o _ H (.refl H) rfl⟩
     · exact o.elim
   · exact o.elim
 · exact o.elim
def si : Str → List Dv → Option (Rs Dv)
 | x, [.str y] => if y.length ≠ 0 ∧ x.length ≤ 100000 then some (.ok (.tup [.str (Txt.partition x y).1, .str (Txt.partition x y).2.1, .str (Txt.partition x y).2.2])) else none
 | _, _ => none
def yX : V → List V → Hp → VK → Prop := fun x xs H Q => ∃ i j, x = .str i ∧ xs = [.str j] ∧ j.length ≠ 0 ∧ i.length ≤ sizeLine ∧ ∀ p, H p = none → Q (.ref p) (upd H p (.tup [.str (Txt.partition i j).1, .str (Txt.partition i j).2.1, .str (Txt.partition i j).2.2]))
theorem vG : MtR X "str.partition" yX := by
 intro pins s σ H x xs v us Q I rx rs h
 obtain ⟨i, j, rfl, rfl, hj, hi, q⟩ := h
 obtain ⟨t, rfl⟩ := rx
 obtain ⟨u, rfl, ru⟩ := dQ rs
 obtain ⟨t', rfl⟩ := ru
 have hy : (j.length == 0) = false := by simpa using hj
 have fin : ∀ (a b c : Str) (ta tb tc : Tok) (k : Nat), Txt.partition i j = (a, b, c) → EP X pins σ Q (.ref s.heap.objs.size) { s with toks := k, heap := s.heap.push { cls := .type "tuple", data := .seq [Value.str a ta, .str b tb, .str c tc].toArray } } := fun a b c ta tb tc k e => by
  rw [e] at q
  refine ⟨.ref _, _, I.laid (t' := k) (fun b u e => Heap.get?_push_of_some _ e) (Nat.le_refl _) ?_, rfl, q _ I.fresh⟩
  exact ⟨by show 3 ≤ sizeLine; decide, [Value.str a ta, .str b tb, .str c tc], .cons ⟨_, rfl⟩ (.cons ⟨_, rfl⟩ (.cons ⟨_, rfl⟩ .nil)), ⟨_, Heap.get?_push_size _ rfl, rfl, _, rfl⟩⟩
 refine call_meets F.slot_str_partition (typeIs_str _ _ _) F.entry_str_partition (F.args_str_partition_2 _ _) (meets_str_partition i j t t' hy hi) ?_
 cases ho : Builtin.Str.occurrences i j 0 i.length 1 with
 | nil => exact fin _ _ _ _ _ _ _ (by unfold Txt.partition; rw [ho])
 | cons k r => exact fin _ _ _ _ _ _ _ (by unfold Txt.partition; rw [ho])
theorem yY (i : Str) (ds : List Dv) (vs : List V) (H : Hp) (Q : VK) (rs : Reps X.K H ds vs) (o : Out X H (si i ds) Q) : yX (.str i) vs H Q := by
 unfold si at o
 split at o
 · rename_i j
   split at o
   · rename_i hc
     obtain ⟨w, rfl, rw'⟩ := da rs
     cases (show w = .str j from rw')
     exact ⟨i, j, rfl, rfl, hc.1, bO hc.2, fun p hp => o _ _ (aF hp _) ⟨p, _, rfl, av, ⟨_, _, rfl, rfl, _, _, rfl, rfl, _, _, rfl, rfl, rfl⟩⟩⟩
   · exact o.elim
 · exact o.elim
variable {p pos : Pos} {e : Expr} {es : List Expr} {ga : FnA}
def ij : List Dv → Option (Rs Dv)
 | [.lst xs] => some (.ok (.tup xs))
 | [.tup xs] => some (.ok (.tup xs))
 | _ => none
theorem sj (hg : Gl X "tuple") (hm : X.mg "tuple" = none) (ha : FA X (e :: es) ga) (he : starEach (e :: es) X.env = (false, eval e X.env) :: starEach es X.env := by kernel_rfl) (hpl : (backTo pos (starEach es X.env)).any (·.1) = false := by kernel_rfl) : FE X (.Call (.Name "tuple" p) (e :: es) [] pos) (fB1 ij ga) :=
 cP (pb jq hg hm (by decide +kernel) ha.h (by decide) (by decide) he hpl) fun σ H Q ρ E o => ⟨ρ, E, OutA.bind o fun ds vs H1 e1 rs o1 => by
  unfold ij at o1
  split at o1
  · rename_i xs
    obtain ⟨v, rfl, r⟩ := da rs
    obtain ⟨a, ws, rfl, h1, h2⟩ := r.lstE
    exact ⟨a, ws, rfl, .inl ⟨SqL.of h1, fun l hl => o1 _ _ (aF hl _) ⟨l, ws, rfl, av, Reps.mono (aF hl _) _ _ h2⟩⟩⟩
  · rename_i xs
    obtain ⟨v, rfl, r⟩ := da rs
    obtain ⟨a, ws, rfl, h1, h2⟩ := r.tupE
    exact ⟨a, ws, rfl, .inr ⟨SqT.of h1, o1 _ H1 (.refl H1) ⟨a, ws, rfl, h1, h2⟩⟩⟩
  · exact o1.elim⟩
end
section
variable {X : Cx} {apos cpos : Pos} {e o : Expr} {es : List Expr} {ga : FnA} {fo : FnE}
def AX (x : Dv) : List Dv → Nat → Option Nat
 | [], _ => none
 | y :: ys, k => if eqF y x then some k else AX x ys (k + 1)
def AY : List Dv → List Dv → Option (Rs Dv)
 | xs, [x] => if dD x && xs.all dD && decide (xs.length ≤ 100000) then (match AX x xs 0 with | some j => some (.ok (.int j)) | none => none) else none
 | _, _ => none
theorem pH {K : PySem.W.Frag} {H : Hp} {x : Dv} {u : V} (q : Rep K H x u) (hx : dD x = true) : ∀ {xs : List Dv} {vs : List V} {k j : Nat}, Reps K H xs vs → xs.all dD = true → AX x xs k = some j →
 k ≤ j ∧ (∃ v, vs[j - k]? = some v ∧ eqV v u = true) ∧ ∀ (m : Nat) v, m < j - k → vs[m]? = some v → eqV v u = false
 | [], vs, k, j, r, _, h => by cases h
 | y :: ys, vs, k, j, r, hf, h => by
  obtain ⟨v, ws, rfl, r1, r2⟩ : ∃ v us, vs = v :: us ∧ Rep K H y v ∧ Reps K H ys us := r
  rw [List.all_cons, Bool.and_eq_true] at hf
  unfold AX at h
  have e1 := pE r1 q hf.1 hx
  split at h
  · rename_i hh
    cases h
    refine ⟨Nat.le_refl _, ⟨v, by simp, by rw [e1]; exact hh⟩, fun m w hm => by omega⟩
  · rename_i hh
    obtain ⟨a, ⟨w, b1, b2⟩, c⟩ := pH q hx r2 hf.2 h
    refine ⟨by omega, ⟨w, ?_, b2⟩, fun m z hm hz => ?_⟩
    · have e : j - k = (j - (k + 1)) + 1 := by omega
      rw [e, List.getElem?_cons_succ]
      exact b1
    · cases m with
      | zero =>
       have : z = v := by simpa using hz.symm
       subst this
       rw [e1]
       simpa using hh
      | succ m => exact c m z (by omega) (by simpa using hz)
def yZ : V → List V → Hp → VK → Prop := fun x xs H Q => ∃ a vs y j, x = .ref a ∧ xs = [y] ∧ H a = some (.lst vs) ∧ dR y = true ∧ vs.all dR = true ∧ vs.length ≤ 100000 ∧ (∃ v, vs[j]? = some v ∧ eqV v y = true) ∧ (∀ (m : Nat) v, m < j → vs[m]? = some v → eqV v y = false) ∧ Q (.int j) H
theorem ur {y : V} {vs : List V} {its : List Value} (r : Vals vs its) (f : vs.all dR = true) {m : Nat} {v : V} (h : vs[m]? = some v) : ∃ hm : m < its.length, eqU y its[m] = eqV v y := by
 obtain ⟨u, hu, ru⟩ := r.get h
 obtain ⟨hm, e⟩ := List.getElem?_eq_some_iff.mp hu
 refine ⟨hm, ?_⟩
 rw [e]
 exact mL ru (List.all_eq_true.mp f v (List.mem_of_getElem? h))
theorem sm : MtR X "list.index" yZ := by
 intro pins s σ H x xs v us Q I rx rs h
 obtain ⟨a, vs, y, j, rfl, rfl, h1, fy, fv, hz, ⟨w, hw, hit⟩, hno, q⟩ := h
 cases rx
 obtain ⟨u, rfl, ru⟩ := dQ rs
 obtain ⟨z, its, n, rv, hl, e⟩ := I.lstM h1
 obtain ⟨hj, ej⟩ := ur (y := y) rv fv hw
 refine call_meets PySem.F.slot_list_index ⟨_, e, rfl⟩ PySem.F.entry_list_index (PySem.F.args_list_index_2 _ _) (SeqAt.list_indexAt a its.toArray n none #[] u (eqU y) j (by simpa using hj) (by omega) (by simpa [ej] using hit) fun m hm hlt => ?_) ⟨e, fun t ht => dB ru fy rv fv t (by simpa using ht), ⟨.int j, H, I.tok _, ⟨_, rfl⟩, q⟩⟩
 have hm' : m < vs.length := by rw [rv.length]; simpa using hm
 obtain ⟨hm2, em⟩ := ur (y := y) rv fv (List.getElem?_eq_getElem hm')
 have := hno m vs[m] hlt (List.getElem?_eq_getElem hm')
 simpa [em] using this
def fML (g : List Dv → List Dv → Option (Rs Dv)) (fo : FnE) (ga : FnA) : FnE := fun ρ => bnd (fo ρ) fun x => match x with
 | .lst i => bnd (ga ρ) fun xs => g i xs
 | _ => none
theorem sr (ho : FE X o fo) (ha : FA X (e :: es) ga)
 (hbase : attributeBase o "index" X.env (eval o X.env) = eval o X.env := by kernel_rfl)
 (hfew : ((backTo cpos (starEach (e :: es) X.env)).all (fun x => !x.1) && (backToKw cpos (keywordEach [] X.env)).all (fun x => x.1.isSome)
   && decide ((e :: es).length + ([] : List Keyword).length + (if ([] : List Keyword).isEmpty then 0 else 1) < 30)) = true := by kernel_rfl)
 (hline : (apos.endLine == cpos.line) = true := by kernel_rfl) (hs : starEach (e :: es) X.env = (false, eval e X.env) :: starEach es X.env := by kernel_rfl) (hplain : (backTo cpos (starEach es X.env)).any (·.1) = false := by kernel_rfl) :
 FE X (.Call (.Attribute o "index" apos) (e :: es) [] cpos) (fML AY fo ga) :=
 cP (rV PySem.F.plainAttrs_list PySem.F.slot_list_index PySem.F.type_list_index sm ho.h ha.h hbase hfew hline hs hplain) fun σ H Q ρ E o => ⟨ρ, E, Out.bind o fun d v H1 e1 rd o1 => by
  cases d <;> try exact (show False from o1).elim
  rename_i ds
  obtain ⟨a, vs, rfl, h1, h2⟩ := rd.lstE
  refine ⟨.inl ⟨rfl, vs, SqL.of h1⟩, ρ, E.mono e1, OutA.bind o1 fun es ws H2 e2 rs o2 => ?_⟩
  unfold AY at o2
  split at o2
  · rename_i x
    split at o2
    · rename_i hc
      rw [Bool.and_eq_true, Bool.and_eq_true] at hc
      split at o2
      · rename_i j hj
        obtain ⟨w, rfl, rw'⟩ := da rs
        have h2' := Reps.mono e2 _ _ h2
        obtain ⟨c1, c2, c3⟩ := pH rw' hc.1.1 h2' hc.1.2 hj
        refine ⟨a, vs, w, j, rfl, rfl, e2 _ _ h1, jw rw' hc.1.1, gW h2' hc.1.2, by rw [h2.length]; exact of_decide_eq_true hc.2, by simpa using c2, by simpa using c3, o2 _ H2 (.refl H2) rfl⟩
      · exact o2.elim
    · exact o2.elim
  · exact o2.elim⟩
end
structure FG (X : Cx) (tg : Expr) (b : Dv → Ev → Option Ev) : Prop where
 h : ∀ (pins : List (Addr × Obj)) (s : Shared) (σ : L2.St) (H : Hp) (v : V) (u : Value) (d : Dv) (ρ ρ' : Ev), Inv X pins σ H s → RelV v u → Rep X.K H d v → Envs X.K H σ ρ → b d ρ = some ρ' →
  wpAny (model X.prog X.w) X.A (assign tg X.env u) (fun _ s' => ∃ σ' H', Inv X pins σ' H' s' ∧ Same H H' ∧ Envs X.K H' σ' ρ') X.xe s
def gN (i : Nat) : Dv → Ev → Option Ev := fun d ρ => some (ρ.set i (some d))
def gP (i j : Nat) : Dv → Ev → Option Ev := fun d ρ => match d with
 | .tup [a, c] => some ((ρ.set i (some a)).set j (some c))
 | _ => none
section
variable {X : Cx} {pos p1 p2 : Pos}
theorem vH (i : Nat) {x : Str} (hN : X.N.Nodup) (hi : X.N[i]? = some x) (hx : Loc X.env.scope x) (hf : X.fn x = true ∨ X.env.scope.names.lookup x = some .local) : FG X (.Name x pos) (gN i) :=
 ⟨fun pins s σ H v u d ρ ρ' I r rd E e => by
  cases e
  exact thn (gl hN hi hx hf pins s σ H v u (fun σ' H' => H' = H ∧ σ' = σ.set i (some v)) I r ⟨rfl, rfl⟩) fun _ s' ⟨σ', H', I', e1, e2⟩ => by
   subst e1 e2
   exact ⟨_, _, I', .refl _, E.set rd⟩⟩
theorem vI (i j : Nat) {x y : Str} {k : Nat} (hc : X.calm = true) (hN : X.N.Nodup) (hi : X.N[i]? = some x) (hx : Loc X.env.scope x) (hf : X.fn x = true ∨ X.env.scope.names.lookup x = some .local)
 (hj : X.N[j]? = some y) (hy : Loc X.env.scope y) (hg : X.fn y = true ∨ X.env.scope.names.lookup y = some .local)
 (hs1 : (assignEach [.Name x p1, .Name y p2] X.env).map (·.2) = assign (.Name x p1) X.env :: (assignEach [.Name y p2] X.env).map (·.2) := by kernel_rfl) (hs2 : (assignEach [.Name y p2] X.env).map (·.2) = assign (.Name y p2) X.env :: (assignEach [] X.env).map (·.2) := by kernel_rfl)
 (hn : (assignEach [.Name x p1, .Name y p2] X.env).length = 2 := by kernel_rfl) (hst : (assignEach [.Name x p1, .Name y p2] X.env).findIdx? (·.1) = none := by kernel_rfl) : FG X (.Tuple [.Name x p1, .Name y p2] k pos) (gP i j) :=
 ⟨fun pins s σ H v u d ρ ρ' I r rd E e => by
  unfold gP at e
  split at e
  · rename_i a c
    cases e
    obtain ⟨ad, xs, rfl, h1, h2⟩ := rd.tupE
    obtain ⟨va, vc, rfl, ra, rc⟩ := BS h2
    refine thn (xW (n := 2) hc (mD (gl (i := i) hN hi hx hf) (mD (gl (i := j) hN hj hy hg) uT hs2) hs1) hn hst pins s σ H _ u (fun σ' H' => H' = H ∧ σ' = (σ.set i (some va)).set j (some vc)) I r ⟨ad, _, rfl, SqT.of h1, rfl, va, [vc], rfl, vc, [], rfl, rfl, rfl, rfl⟩) fun _ s' ⟨σ', H', I', e1, e2⟩ => ?_
    subst e1 e2
    exact ⟨_, _, I', .refl _, (E.set ra).set rc⟩
  · cases e⟩
end
structure WkG (K : PySem.W.Frag) (J : It) (ds : List Dv) (H0 : Hp) : Prop where
 go : ∀ i H, Same H0 H → i < ds.length → J.go i H
 stop : ∀ H, Same H0 H → J.stop ds.length H
 yld : ∀ i H x H', Same H0 H → i < ds.length → J.yld i H x H' → Same H H' ∧ ∃ d, ds[i]? = some d ∧ Rep K H' d x
theorem Wk.toG {K : PySem.W.Frag} {J : It} {ds : List Dv} {H0 : Hp} (w : Wk K J ds H0) : WkG K J ds H0 :=
 ⟨w.go, w.stop, fun i H x H' e hi y => by
  obtain ⟨rfl, d, h1, h2⟩ := w.yld i H x H' e hi y
  exact ⟨.refl _, d, h1, h2⟩⟩
def OutG (X : Cx) (H : Hp) (o : Option (Rs (List Dv))) (R : It → Hp → Prop) : Prop := match o with
 | none => False
 | some (.exc c) => XW X c H
 | some (.ok ds) => ∀ J H', Same H H' → WkG X.K J ds H' → R J H'
theorem OutG.mono {X : Cx} {H H' : Hp} {R : It → Hp → Prop} (e : Same H H') : ∀ {o : Option (Rs (List Dv))}, OutG X H o R → OutG X H' o R
 | none, h => h
 | some (.exc _), h => XW.mono h e
 | some (.ok _), h => fun v H1 e1 r => h v H1 (e.trans e1) r
structure FIG (X : Cx) (tg iter : Expr) (f : FnA) : Prop where
 h : PI X tg iter fun σ H R => ∃ ρ, Envs X.K H σ ρ ∧ OutG X H (f ρ) R
theorem FI.toG {X : Cx} {tg iter : Expr} {f : FnA} (h : FI X tg iter f) : FIG X tg iter f :=
 ⟨fun pins s σ H R I ⟨ρ, E, o⟩ => h.h pins s σ H R I ⟨ρ, E, by
  match hf : f ρ, o with
  | some (.exc c), o => exact o
  | some (.ok ds), o => exact fun J H' e w => o J H' e w.toG⟩⟩
def eL (m : Nat) (cs : List (Str × Nat)) (ρ : Ev) : Ev := List.replicate m none ++ cs.map fun c => (ρ[c.2]?).join
def fj (b : Dv → Ev → Option Ev) (tst : Option FnB) (elt : FnE) (cap : Ev) : List Dv → Option (List Dv)
 | [] => some []
 | d :: ds => match b d cap with
  | none => none
  | some ρ => match (match tst with | none => (some (.ok true) : Option (Rs Bool)) | some t => t ρ) with
   | some (.ok true) => (match elt ρ with
    | some (.ok y) => (match fj b tst elt cap ds with | some ys => some (y :: ys) | none => none)
    | _ => none)
   | some (.ok false) => fj b tst elt cap ds
   | _ => none
structure B0 (osc scope : Scope) (cs : List (Str × Nat)) (N : List Str) : Prop where
 kind : scope.kind = .function
 cell : ∀ y ∈ scope.names, y.2 ≠ .cell
 names : ∀ y ∈ scope.names, y.2 = .local → scope.names.lookup y.1 = some .local
 free : ∀ y ∈ scope.names, y.2 = .free → osc.names.lookup y.1 = some .cell ∨ osc.names.lookup y.1 = some .free
 caps : ∀ c ∈ cs, N[c.2]? = some c.1 ∧ scope.names.lookup c.1 = some .free
def kf (m : Nat) (cs : List (Str × Nat)) (σ : L2.St) : L2.St := List.replicate m none ++ cs.map fun c => (σ[c.2]?).join
theorem kg {α : Type} {m i : Nat} {v : α} {l : List (Option α)} (h : (List.replicate m (none : Option α) ++ l)[i]? = some (some v)) : ∃ k, i = m + k ∧ l[k]? = some (some v) := by
 by_cases hi : i < m
 · rw [List.getElem?_append_left (by simpa using hi), List.getElem?_replicate, if_pos hi] at h
   cases h
 · refine ⟨i - m, by omega, ?_⟩
   rw [List.getElem?_append_right (by simpa using hi)] at h
   simpa using h
theorem pI {K : PySem.W.Frag} {H : Hp} {σ : L2.St} {ρ : Ev} (m : Nat) (cs : List (Str × Nat)) (E : Envs K H σ ρ) : Envs K H (kf m cs σ) (eL m cs ρ) := by
 refine ⟨by simp [kf, eL], fun i d h => ?_⟩
 obtain ⟨k, rfl, hk⟩ := kg h
 rw [List.getElem?_map] at hk
 cases hc : cs[k]? with
 | none => rw [hc] at hk; simp at hk
 | some c =>
  rw [hc] at hk
  simp only [Option.map_some, Option.some.injEq] at hk
  have h2 : ρ[c.2]? = some (some d) := by
   cases q : ρ[c.2]? with
   | none => rw [q] at hk; simp at hk
   | some o => rw [q] at hk; simp at hk; rw [hk]
  obtain ⟨v, h3, h4⟩ := E.at' c.2 d h2
  refine ⟨v, ?_, h4⟩
  unfold kf
  rw [List.getElem?_append_right (by simp)]
  simp only [List.length_replicate, Nat.add_sub_cancel_left, List.getElem?_map, hc, Option.map_some, h3]
  rfl
theorem kh {prog : Program} {w : World} {A : Around} {R : Result → Shared → Prop} {s : Shared} {elt target iter : Expr} {ifs : List Expr} {scope : Scope} {pos : Pos} {it acc : Value} {env : Env} (I : Nat → Shared → Prop)
 (turn : ∀ n s, I n s → wpAny (model prog w) A (pyNext it) (fun r s₁ => match r with
   | none => R (.ok .next) s₁
   | some v => wpAny (model prog w) A (letOwnedTupleGo target it v) (fun _ s₀ => wpAny (model prog w) A (assign target env v) (fun _ s₂ =>
    wpAny (model prog w) A (forIn ifs true fun c r => if r = true then do let ok ← isTrue c env (eval c env); pure (ForInStep.yield ok) else pure (ForInStep.yield r)) (fun ok s₃ =>
     if ok = true then wpAny (model prog w) A (eval elt env) (fun x s₄ =>
      wpAny (model prog w) A (call (.builtin "list.append") [acc, x]) (fun _ s₅ => ∃ m, m < n ∧ I m s₅) (notedBy (model prog w) A env fun e s' => R (.error e) s') s₄) (notedBy (model prog w) A env fun e s' => R (.error e) s') s₃
     else ∃ m, m < n ∧ I m s₃) (notedBy (model prog w) A env fun e s' => R (.error e) s') s₂) (notedBy (model prog w) A env fun e s' => R (.error e) s') s₀) (notedBy (model prog w) A env fun e s' => R (.error e) s') s₁) (notedBy (model prog w) A env fun e s' => R (.error e) s') s)
 (n : Nat) (h : I n s) :
 codeAny (model prog w) A (.compLoop (.ListComp elt [⟨target, iter, ifs, 0⟩] scope pos) 0 it acc env) R s := by
 refine codeAny_loop rfl I (fun n s hI => ?_) n h
 show wpAny _ A ((compTurn (.ListComp elt [⟨target, iter, ifs, 0⟩] scope pos) 0 it acc env).onRaise (fun x => do noteFrame x env; theTreesLotGoes x)) _ _ s
 refine wpAny_noted ?_
 rw [compTurn_list]
 refine wpAny_bind (wpAny_standAt (wpAny_bind (wpAny_mono (turn n s hI) (fun r s₁ h₁ => ?_) fun _ _ h' => h')))
 cases r with
 | none => exact wpAny_pure h₁
 | some v =>
  refine wpAny_bind (wpAny_mono h₁ (fun _ s₀ h₀ => ?_) fun _ _ h' => h')
  refine wpAny_bind (wpAny_mono h₀ (fun _ s₂ h₂ => wpAny_bind (wpAny_mono h₂ (fun ok s₃ h₃ => ?_) fun _ _ h' => h')) fun _ _ h' => h')
  cases ok with
  | false =>
   rw [if_neg Bool.false_ne_true] at h₃
   first
    | exact wpAny_bind (wpAny_pure (wpAny_pure ⟨rfl, h₃⟩))
    | exact wpAny_pure ⟨rfl, h₃⟩
    | (show wpAny _ _ (again _) _ _ _; exact wpAny_pure ⟨rfl, h₃⟩)
  | true =>
   rw [if_pos rfl] at h₃
   first
    | exact wpAny_bind (wpAny_bind (wpAny_mono h₃ (fun x s₄ h₄ => wpAny_bind (wpAny_mono h₄ (fun _ s₅ h₅ => wpAny_pure (wpAny_pure ⟨rfl, h₅⟩)) fun _ _ h' => h')) fun _ _ h' => h'))
    | exact wpAny_bind (wpAny_mono h₃ (fun x s₄ h₄ => wpAny_bind (wpAny_mono h₄ (fun _ s₅ h₅ => wpAny_pure ⟨rfl, h₅⟩) fun _ _ h' => h')) fun _ _ h' => h')
def aU (m : Nat) (cs : List (Str × Nat)) (src : FnA) (b : Dv → Ev → Option Ev) (tst : Option FnB) (elt : FnE) : FnE := fun ρ => bnd (src ρ) fun ds => match fj b tst elt (eL m cs ρ) ds with
 | some ys => if ys.length ≤ 100000 ∧ ds.length ≤ 100000 then some (.ok (.lst ys)) else none
 | none => none
theorem B1 {m : Nat} {cs : List (Str × Nat)} {src : FnA} {b : Dv → Ev → Option Ev} {tst : Option FnB} {fe : FnE} {ρ : Ev} {o : Rs Dv} (h : aU m cs src b tst fe ρ = some o) :
 (∃ c, src ρ = some (.exc c) ∧ o = .exc c) ∨ ∃ ds ys, src ρ = some (.ok ds) ∧ fj b tst fe (eL m cs ρ) ds = some ys ∧ ds.length ≤ 100000 ∧ ys.length ≤ 100000 ∧ o = .ok (.lst ys) := by
 unfold aU at h
 match hf : src ρ with
 | none => rw [hf] at h; cases h
 | some (.exc c) => rw [hf] at h; cases h; exact .inl ⟨c, rfl, rfl⟩
 | some (.ok ds) =>
  rw [hf] at h
  dsimp only [bnd] at h
  match hm : fj b tst fe (eL m cs ρ) ds with
  | none => rw [hm] at h; cases h
  | some ys =>
   rw [hm] at h
   dsimp only at h
   split at h
   · rename_i hl
     cases h
     exact .inr ⟨ds, ys, rfl, hm, hl.2, hl.1, rfl⟩
   · cases h
theorem vJ (cs : List (Str × Nat)) (ρ : Ev) (d : Dv) (ρ' : Ev) (h : gN 0 d (eL 1 cs ρ) = some ρ') : fgt [0] ρ' = eL 1 cs ρ := by
 cases h
 rfl
theorem y0 (cs : List (Str × Nat)) (ρ : Ev) (d : Dv) (ρ' : Ev) (h : gP 0 1 d (eL 2 cs ρ) = some ρ') : fgt [0, 1] ρ' = eL 2 cs ρ := by
 unfold gP at h
 split at h
 · cases h
   rfl
 · cases h
def Ite (K : PySem.W.Frag) (a : Addr) : It :=
 ⟨fun i H => ∃ xs x, SqL K H a xs ∧ xs[i]? = some x, fun i H v H' => ∃ p x, v = .ref p ∧ H p = none ∧ H' = upd H p (.tup [.int i, x]) ∧ ∀ xs, SqL K H a xs → xs[i]? = some x, fun i H => ∃ xs, SqL K H a xs ∧ xs.length ≤ i⟩
theorem pJ {P : Program} {w : World} {K : PySem.W.Frag} {es : List Expr} {k : Nat} {pos : Pos} (a e it : Addr) (hne : e ≠ it) : tW P w K (.Tuple es k pos) (Ite K a) [e, it] e (fun i h => (∃ old, IsEnum h e it i old) ∧ h.IsListIter it a i) where
 mem := by simp
 obj := fun i h st b hb => by
  obtain ⟨⟨old, he⟩, o, e2, c, d⟩ := st
  have hb' : b = e ∨ b = it := by simpa using hb
  rcases hb' with rfl | rfl
  · exact ⟨_, he, fun v z => by cases z⟩
  · exact ⟨o, e2, fun v z => by rw [d] at z; cases z⟩
 keep := fun i h h' st kk => by
  obtain ⟨⟨old, he⟩, st2⟩ := st
  exact ⟨⟨old, kk e (by simp) _ he⟩, st2.at fun o ee => kk it (by simp) o ee⟩
 item := by
  intro X hP hw hK hc i pins s σ H E I hf st hg
  subst hP hw hK
  obtain ⟨xs, x, hq, hx⟩ := hg
  obtain ⟨its, rv, p, hz⟩ := I.list hq
  obtain ⟨u, hu, ru⟩ := rv.get hx
  obtain ⟨⟨old, he⟩, st2⟩ := st
  obtain ⟨f0, f1, f2, f3, f4, f5⟩ := hf e (by simp)
  obtain ⟨g0, g1, g2, g3, g4, g5⟩ := hf it (by simp)
  refine wpAny_pyNext_enum_item he st2 p.isList (x := u) (by simpa using hu) hne fun h' eo st' tp sz kk => ?_
  refine ⟨_, rfl, wpAny_letOwnedTupleGo_enum eo fun h2 he2 sb2 => ?_⟩
  have hp : H s.heap.objs.size = none := I.hok.fresh (Nat.le_refl _)
  have elt : e < s.heap.objs.size := Heap.lt_size he
  have k2 : ∀ b o, b ∉ [e, it] → s.heap.get? b = some o → h2.get? b = some o := fun b o hb q => sb2.extBut b o (fun z => hb (by simp [z])) (kk b o (fun z => hb (by simp [z])) (fun z => hb (by simp [z])) q)
  have tp2 : h2.get? s.heap.objs.size = some { cls := .type "tuple", data := .seq #[.int i s.toks, u] } := sb2.extBut _ _ (Nat.ne_of_gt elt) tp
  have I1 : Inv X pins σ (upd H s.heap.objs.size (.tup [.int i, x])) { s with heap := h2, toks := s.toks + 1 } := by
   have nt : ∀ b u, H b = some u → b ∉ [e, it] := fun b u q z => by
    have z' : b = e ∨ b = it := by simpa using z
    rcases z' with rfl | rfl
    · rw [f0] at q; cases q
    · rw [g0] at q; cases q
   refine I.step (g' := s.gens) (d' := s.drawn) (ch := [e, it]) (fun b hb => ?_) (fun b o _ _ hcb q _ => k2 b o hcb q) (fun b o _ _ hcb q _ => ⟨o.slots, k2 b o hcb q⟩) (fun b o hcb q n => ?_) (fun b o hcb q => ⟨o, k2 b o hcb q⟩)
    (fun b ys q => by rw [az (aB q hp)]; exact q) (fun b o ys q => by rw [az (aB q hp)]; exact q) (fun b ps q => ⟨#[], by rw [az (aB q hp), q]; simp⟩) (fun m hm => ?_) (fun b u2 q => ?_) I.bare
   · have z' : b = e ∨ b = it := by simpa using hb
     rcases z' with rfl | rfl
     · exact ⟨f3, f1, f4, f5⟩
     · exact ⟨g3, g1, g4, g5⟩
   · rw [az (Nat.ne_of_lt (Heap.lt_size q))]; exact n
   · obtain ⟨o, es', ep, ho, r⟩ := hm
     exact ⟨o, es', ep, k2 _ o (fun z => by
      have z' : X.env.locals = e ∨ X.env.locals = it := by simpa using z
      rcases z' with z' | z'
      · exact f1 z'.symm
      · exact g1 z'.symm) ho, r⟩
   · by_cases hb : b = s.heap.objs.size
     · subst hb
       rw [av] at q
       cases q
       exact ⟨by show 2 ≤ sizeLine; decide, [.int i s.toks, u], .cons ⟨_, rfl⟩ (.cons ru .nil), ⟨_, tp2, rfl, _, rfl⟩⟩
     · rw [az hb] at q
       refine (I.hok b u2 q).stay (fun c v hcv qq => k2 c v ?_ qq) (fun c qq => by rw [az (aB qq hp)]; exact qq) fun c ys qq => by rw [az (aB qq hp)]; exact qq
       rcases hcv with rfl | hcv
       · exact nt _ _ q
       · exact nt _ _ hcv
  refine ⟨.ref s.heap.objs.size, _, I1, rfl, ⟨_, x, rfl, hp, rfl, fun zs hy => by rw [I.list_inj hy hq]; exact hx⟩, ⟨⟨_, by simpa using he2⟩, ?_⟩, fun b hb => ?_⟩
  · exact st'.at fun o q => sb2.extBut _ _ (Ne.symm hne) q
  · have z' : b = e ∨ b = it := by simpa using hb
    rcases z' with rfl | rfl
    · rw [az (Nat.ne_of_lt elt)]; exact f0
    · obtain ⟨o, q, _⟩ := id st2
      rw [az (Nat.ne_of_lt (Heap.lt_size q))]; exact g0
 done := by
  intro X hP hw hK hc i pins s σ H E I hf st hg
  subst hP hw hK
  obtain ⟨xs, hq, hx⟩ := hg
  obtain ⟨its, rv, p, hz⟩ := I.list hq
  obtain ⟨⟨old, he⟩, st2⟩ := st
  obtain ⟨g0, g1, g2, g3, g4, g5⟩ := hf it (by simp)
  have hl := rv.length
  exact wpAny_pyNext_enum_end (I.ok.hd hc) he st2 p.isList (by simp; omega) fun h' eb => ⟨rfl, I.turned (t' := s.toks) (fun b o hb e => eb b o hb e) g0 g1 g3 g4 g5⟩
 self := fun _ _ _ _ _ st h => by
  obtain ⟨⟨old, he⟩, _⟩ := st
  exact wpAny_pyIter_enum he h
def eS : Nat → List Dv → List Dv
 | _, [] => []
 | k, d :: ds => .tup [.int k, d] :: eS (k + 1) ds
theorem d5 : ∀ (ds : List Dv) (k : Nat), (eS k ds).length = ds.length
 | [], _ => rfl
 | d :: ds, k => by show (eS (k + 1) ds).length + 1 = ds.length + 1; rw [d5]
theorem ki : ∀ (ds : List Dv) (k i : Nat) (d : Dv), ds[i]? = some d → (eS k ds)[i]? = some (.tup [.int ((k + i : Nat) : Int), d])
 | [], _, _, _, h => by simp at h
 | d :: ds, k, 0, d', h => by simp at h; subst h; rfl
 | d :: ds, k, i + 1, d', h => by
  have q := ki ds (k + 1) i d' (by simpa using h)
  show (Dv.tup [.int k, d] :: eS (k + 1) ds)[i + 1]? = _
  rw [List.getElem?_cons_succ, q]
  have e : k + 1 + i = k + (i + 1) := by omega
  rw [e]
theorem vK {K : PySem.W.Frag} {H : Hp} {a : Addr} {xs : List V} {ds : List Dv} (h : H a = some (.lst xs)) (r : Reps K H ds xs) : WkG K (Ite K a) (eS 0 ds) H where
 go := fun i H' e hi => by
  rw [d5] at hi
  have hx : i < xs.length := by rw [r.length]; exact hi
  exact ⟨xs, xs[i], SqL.of (e _ _ h), by simp [hx]⟩
 stop := fun H' e => ⟨xs, SqL.of (e _ _ h), by rw [r.length, d5]; exact Nat.le_refl _⟩
 yld := fun i H' v H2 e hi y => by
  obtain ⟨p, x, rfl, hp, rfl, y⟩ := y
  obtain ⟨d, h1, h2⟩ := Reps.get (Reps.mono e _ _ r) (y xs (SqL.of (e _ _ h)))
  have q := ki ds 0 i d h1
  rw [Nat.zero_add] at q
  exact ⟨aF hp _, _, q, ⟨p, _, rfl, av, ⟨.int i, [x], rfl, rfl, x, [], rfl, Rep.mono (aF hp _) _ _ h2, rfl⟩⟩⟩
def kj : List Dv → Option (Rs (List Dv))
 | [.lst ds] => some (.ok (eS 0 ds))
 | _ => none
theorem su {X : Cx} {es : List Expr} {k : Nat} {pt p pos : Pos} {l : Expr} {ga : FnA} (hg : Gl X "enumerate") (hm : X.mg "enumerate" = none) (ha : FA X [l] ga) (hs : starEach [l] X.env = [(false, eval l X.env)] := by kernel_rfl) : FIG X (.Tuple es k pt) (.Call (.Name "enumerate" p) [l] [] pos) (fun ρ => bnd (ga ρ) kj) := by
 constructor
 intro pins s σ H R I h
 obtain ⟨ρ, E, o⟩ := h
 have key : OutA X H (ga ρ) fun vs H' => ∃ ds, Reps X.K H' ds vs ∧ OutG X H' (kj ds) R := by
  match hf : ga ρ, o with
  | some (.exc c), o => exact o
  | some (.ok ds), o => exact fun vs H' e rs => ⟨ds, rs, OutG.mono e o⟩
 refine Call_ (eW I hg hm (show bootBuiltins "enumerate" = some (.type "enumerate") by decide +kernel) (PyProof.Rows.callWith_type1 (thn (ha.h pos pins s σ H _ I ⟨ρ, E, key⟩) fun us s1 ⟨vs, H1, I1, r1, ds, rs, q1⟩ => ?_) hs rfl))
 unfold kj at q1
 split at q1
 · rename_i xs
   obtain ⟨v, rfl, rv⟩ := da rs
   obtain ⟨a, ws, rfl, h1, h2⟩ := rv.lstE
   obtain ⟨u, rfl, ru⟩ := dQ r1
   cases ru
   obtain ⟨its, rv', pl, hz⟩ := I1.list (SqL.of h1)
   refine call_enumerate_list pl.isList fun h' he hit hsz kk => ?_
   refine wpAny_pyIter_enum he ?_
   have I2 : Inv X pins σ H1 { s1 with heap := h' } := I1.kept (t' := s1.toks) kk
   refine ⟨s1.heap.objs.size + 1, [s1.heap.objs.size + 1, s1.heap.objs.size], _, Ite X.K a, H1, rfl, I2, pJ a _ _ (Nat.succ_ne_self _), ⟨⟨_, he⟩, hit⟩, fun b hb => ?_, q1 _ H1 (.refl H1) (vK h1 h2)⟩
   have hb' : b = s1.heap.objs.size + 1 ∨ b = s1.heap.objs.size := by simpa using hb
   rcases hb' with rfl | rfl
   · exact I1.fpOk (Nat.le_succ _) (I1.hok.fresh (Nat.le_succ _))
   · exact I1.fpOk (Nat.le_refl _) (I1.hok.fresh (Nat.le_refl _))
 · exact q1.elim
section
variable {X : Cx} {pos p1 : Pos}
end
theorem aw {a b : FnS} {ρ ρ' : Ev} (h : a ρ = some (.nx ρ')) : aD a b ρ = b ρ' := by
 unfold aD; rw [h]; rfl
theorem vL {a b : FnS} {ρ : Ev} {d : Dv} (h : a ρ = some (.rt d)) : aD a b ρ = some (.rt d) := by
 unfold aD; rw [h]; rfl
theorem ba {c : FnB} {f : FnS} {ρ : Ev} (h : c ρ = some (.ok false)) : aR c f (fun ρ => some (.nx ρ)) ρ = some (.nx ρ) := by
 unfold aR; rw [h]; rfl
theorem dc {i : Nat} {v : FnE} {ρ ρ' : Ev} {d : Dv} (h : v ρ = some (.ok d)) (e : ρ.set i (some d) = ρ') : bh i v ρ = some (.nx ρ') := by
 unfold bh; rw [h, ← e]; rfl
theorem sv {v : FnE} {ρ : Ev} {d : Dv} (h : v ρ = some (.ok d)) : a5 v ρ = some (.nx ρ) := by
 unfold a5; rw [h]; rfl
theorem cZ {v : FnE} {ρ : Ev} {d : Dv} (h : v ρ = some (.ok d)) : ay v ρ = some (.rt d) := by
 unfold ay; rw [h]; rfl
theorem lE {i : Nat} {js : List Nat} {src : FnA} {body : FnS} {ρ : Ev} {ds : List Dv} (h : src ρ = some (.ok ds)) : lr i js src body ρ = ju i js body ds ρ := by
 unfold lr; rw [h]; rfl
theorem y4 {a b : FnB} {ρ : Ev} (h : a ρ = some (.ok false)) : bOr a b ρ = b ρ := by unfold bOr; rw [h]; rfl
theorem y6 {a b : FnB} {ρ : Ev} (h : a ρ = some (.ok true)) : cX a b ρ = b ρ := by unfold cX; rw [h]; rfl
theorem y8 {a b : FnB} {ρ : Ev} (h : a ρ = some (.ok false)) : cX a b ρ = some (.ok false) := by unfold cX; rw [h]; rfl
theorem c0 {a : FnB} {ρ : Ev} {k : Bool} (h : a ρ = some (.ok k)) : bu a ρ = some (.ok (!k)) := by unfold bu; rw [h]; rfl
theorem bS {f : FnE} {ρ : Ev} {k : Bool} (h : f ρ = some (.ok (.bl k))) : fB f ρ = some (.ok k) := by unfold fB; rw [h]; rfl
theorem bZ {g : Dv → Dv → Option (Rs Dv)} {f h : FnE} {ρ : Ev} {x y : Dv} (hf : f ρ = some (.ok x)) (hh : h ρ = some (.ok y)) : f2 g f h ρ = g x y := by unfold f2; rw [hf, hh]; rfl
theorem ai {f : FnE} {g : FnA} {ρ : Ev} {x : Dv} {xs : List Dv} (h : f ρ = some (.ok x)) (t : g ρ = some (.ok xs)) : aa f g ρ = some (.ok (x :: xs)) := by unfold aa; rw [h, t]; rfl
theorem aC {ρ : Ev} : ae ρ = some (.ok []) := rfl
theorem dF {F : List Dv → Option (Rs Dv)} {n : Nat} {g : FnA} {ρ : Ev} {ds : List Dv} {d : Dv} (h : g ρ = some (.ok ds)) (hl : ds.length = n) (hF : F ds = some (.ok d)) : ag F n g ρ = some (.ok d) := by
 unfold ag; rw [h]
 show (if _ then _ else _) = _
 rw [if_pos hl, hF]
theorem dS (F : List Dv → Option (Rs Dv)) {f : FnE} {ρ : Ev} {a d : Dv} (h : f ρ = some (.ok a)) (hF : F [a] = some (.ok d)) : ag F 1 (aa f ae) ρ = some (.ok d) := dF (ai h aC) rfl hF
theorem dG (F : List Dv → Option (Rs Dv)) {f g : FnE} {ρ : Ev} {a b d : Dv} (h : f ρ = some (.ok a)) (h' : g ρ = some (.ok b)) (hF : F [a, b] = some (.ok d)) : ag F 2 (aa f (aa g ae)) ρ = some (.ok d) := dF (ai h (ai h' aC)) rfl hF
theorem fk {g : FnA} {ρ : Ev} {ds : List Dv} (h : g ρ = some (.ok ds)) (hl : ds.length ≤ 100000) : aT g ρ = some (.ok (.tup ds)) := by
 unfold aT; rw [h]
 show (if _ then _ else _) = _
 rw [if_pos hl]
theorem y9 {f g : FnE} {ρ : Ev} (h : f ρ = some (.ok (.bl true))) : cT f g ρ = g ρ := by unfold cT; rw [h]; rfl
theorem dP {g : List Dv → Option (Rs Dv)} {a : FnA} {ρ : Ev} {ds : List Dv} (h : a ρ = some (.ok ds)) : fB1 g a ρ = g ds := by unfold fB1; rw [h]; rfl
theorem B4 {c : FnB} {f g : FnE} {ρ : Ev} (h : c ρ = some (.ok true)) : fIf c f g ρ = f ρ := by unfold fIf; rw [h]; rfl
theorem B5 {c : FnB} {f g : FnE} {ρ : Ev} (h : c ρ = some (.ok false)) : fIf c f g ρ = g ρ := by unfold fIf; rw [h]; rfl
theorem vM {g : FnA} {ρ : Ev} {ds : List Dv} (h : g ρ = some (.ok ds)) (hl : ds.length ≤ 100000) : bq g ρ = some (.ok (.lst ds)) := by
 unfold bq; rw [h]
 show (if _ then _ else _) = _
 rw [if_pos hl]
theorem dj {n : Nat} {B : FnS} {ds : List Dv} {d : Dv} (h : B (ds.map some ++ List.replicate (n - ds.length) none) = some (.rt d)) : aZ n B ds = some (.ok d) := by
 unfold aZ; rw [h]
section
variable {prog : Program} {w : World} {A : Around} {E : Value → Shared → Prop}
end
section
variable {X : Cx} {pos p1 : Pos}
end
structure Aft (X : Cx) (e : Addr) (Ts : List Addr) (h h' : Heap) : Prop where
 keep : ∀ b o, h.get? b = some o → b ≠ e → b ∉ Ts → b ∉ frs X.stack → h'.get? b = some o
 slot : ∀ b o, h.get? b = some o → b ∈ frs X.stack → ∃ sl, h'.get? b = some { o with slots := sl }
section
variable {X : Cx} {pins : List (Addr × Obj)} {σ : L2.St} {H : Hp} {s : Shared} {e : Addr} {Ts : List Addr} {h' : Heap}
theorem Aft.any {h : Heap} (A : Aft X e Ts h h') {b : Addr} {o : Obj} (q : h.get? b = some o) (n1 : b ≠ e) (n2 : b ∉ Ts) : ∃ sl, h'.get? b = some { o with slots := sl } := by
 by_cases hb : b ∈ frs X.stack
 · exact A.slot b o q hb
 · exact ⟨o.slots, A.keep b o q n1 n2 hb⟩
theorem Inv.aft (I : Inv X pins σ H s) (A : Aft X e Ts s.heap h') (hex : X.ex = []) (hf : ∀ b, b = e ∨ b ∈ Ts → H b = none ∧ X.s₀.heap.get? b = none ∧ (∀ p ∈ X.pn ++ pins, p.1 ≠ b) ∧ ∃ o vs, s.heap.get? b = some o ∧ o.data = .fields vs) :
 Inv X pins σ H { s with heap := h' } := by
 have nE : ∀ b, H b ≠ none → b ≠ e ∧ b ∉ Ts := fun b hb => ⟨fun z => hb (hf b (.inl z)).1, fun z => hb (hf b (.inr z)).1⟩
 have n0 : ∀ b o, X.s₀.heap.get? b = some o → b ≠ e ∧ b ∉ Ts := fun b o hb => ⟨fun z => (by simp : (some o : Option Obj) ≠ none) (hb.symm.trans (hf b (.inl z)).2.1), fun z => (by simp : (some o : Option Obj) ≠ none) (hb.symm.trans (hf b (.inr z)).2.1)⟩
 have nx : ∀ b, b ∉ X.ex := fun b => by rw [hex]; simp
 have nD : ∀ b o, s.heap.get? b = some o → (∀ vs, o.data ≠ .fields vs) → b ≠ e ∧ b ∉ Ts := fun b o hb hd =>
  have go : (b = e ∨ b ∈ Ts) → False := fun z => by
   obtain ⟨o', vs, q, d⟩ := (hf b z).2.2.2
   rw [hb] at q
   cases q
   exact hd vs d
  ⟨fun z => go (.inl z), fun z => go (.inr z)⟩
 have nS : ∀ b ∈ frs X.stack, H b = none := I.stkFree
 have cellK : ∀ c v, s.heap.IsCell c v → h'.IsCell c v := fun c v ⟨o, ho, hd⟩ => by
  obtain ⟨n1, n2⟩ := nD c o ho fun vs q => by rw [hd] at q; cases q
  obtain ⟨sl, q⟩ := A.any ho n1 n2
  exact ⟨_, q, hd⟩
 refine ⟨I.ok, I.os, I.bare, ⟨fun b o q n hb hx => ?_, fun b o q n hb hx => ?_, I.base.free, fun b o q hx => ?_, I.base.tups, I.base.frzs, I.base.tbls⟩, ?_, fun x c q => ?_, I.free, I.freeC, fun p hp => ?_, fun a o q => ?_, I.len⟩
 · have h1 := I.base.keep b o q n hb hx
   obtain ⟨n1, n2⟩ := n0 b o q
   refine A.keep b o h1 n1 n2 fun z => ?_
   rcases List.mem_cons.mp (I.stkSub b z) with z | z
   · exact absurd z (Nat.ne_of_lt (Nat.lt_of_lt_of_le (Heap.lt_size q) I.ok.above))
   · exact hb z
 · obtain ⟨sl, h1⟩ := I.base.slot b o q n hb hx
   obtain ⟨n1, n2⟩ := n0 b o q
   obtain ⟨sl', h2⟩ := A.any h1 n1 n2
   exact ⟨sl', h2⟩
 · obtain ⟨o', h1⟩ := I.base.there b o q hx
   obtain ⟨n1, n2⟩ := n0 b o q
   obtain ⟨sl, h2⟩ := A.any h1 n1 n2
   exact ⟨_, h2⟩
 · obtain ⟨m, ⟨o, es, ep, ho, hd, r⟩, hl⟩ := I.loc
   obtain ⟨n1, n2⟩ := nD _ o ho fun vs q => by rw [hd] at q; cases q
   obtain ⟨sl, q⟩ := A.any ho n1 n2
   refine ⟨m, ⟨_, es, ep, q, hd, r⟩, fun i x v e1 e2 e3 => ?_⟩
   obtain ⟨u, ru, l⟩ := hl i x v e1 e2 e3
   refine ⟨u, ru, ?_⟩
   rcases l with l | ⟨k, c, ec, z⟩
   · exact .inl l
   · exact .inr ⟨k, c, ec, cellK c _ z⟩
 · obtain ⟨v, z⟩ := I.cell x c q
   exact ⟨v, cellK c v z⟩
 · obtain ⟨q, n, ne, nf, d⟩ := I.pin p hp
   have n1 : p.1 ≠ e := (hf e (.inl rfl)).2.2.1 p hp
   have n2 : p.1 ∉ Ts := fun z => (hf p.1 (.inr z)).2.2.1 p hp rfl
   refine ⟨A.keep p.1 p.2 q n1 n2 fun z => ?_, n, ne, nf, d⟩
   rcases List.mem_cons.mp (I.stkSub _ z) with z | z
   · exact ne z
   · exact nf z
 · refine (I.hok a o q).stay (fun b u hb hu => ?_) (fun _ z => z) fun _ _ z => z
   have hn : H b ≠ none := by
    rcases hb with rfl | hb
    · rw [q]; simp
    · rw [hb]; simp
   exact A.keep b u hu (nE b hn).1 (nE b hn).2 fun z => hn (nS b z)
abbrev hid (X : Cx) (e : Addr) (Ts : List Addr) (h : Heap) : Heap := PySem.W.hideAll h (e :: (Ts ++ frs X.stack))
theorem mS (I : Inv X pins σ H s) (k : (hid X e Ts s.heap).StaysIn h') (u : ∀ b o, s.heap.get? b = some o → (∀ vs, o.data ≠ .fields vs) → ∃ sl, h'.get? b = some { o with slots := sl }) : Aft X e Ts s.heap h' :=
 ⟨fun b o q n1 n2 n3 => k b o (PySem.W.hideAll_get _ q (by simp only [List.mem_cons, List.mem_append]; rintro (z | z | z); exact n1 z; exact n2 z; exact n3 z)), fun b o q hb => by
  obtain ⟨_, o', q', d⟩ := I.stack.mem hb
  rw [q] at q'
  cases q'
  exact u b o q d⟩
theorem jz (I : Inv X pins σ H s) : s.heap.FunFrames (hid X e Ts s.heap) X.stack :=
 PySem.W.funFrames_hide I.stack fun env he a hfa => List.mem_cons_of_mem _ (List.mem_append_right _ (List.mem_filterMap.mpr ⟨env, he, hfa⟩))
end
section
variable {X : Cx} {pins : List (Addr × Obj)} {σ : L2.St} {H : Hp} {s : Shared} {e : Addr} {cls : Value}
theorem Fly.imp {N N' : Addr → Prop} {h : Heap} (F : Fly N H e cls h) (k : ∀ a, N a → N' a) : Fly N' H e cls h := by
 obtain ⟨h1, h2, oe, vs, a0, q1, q2, q3, q4, q5⟩ := F
 refine ⟨h1, k _ h2, oe, vs, a0, q1, q2, q3, q4, ?_⟩
 rcases q5 with q5 | ⟨T, oT, ts, r1, r2, r3, r4, r5⟩
 · exact .inl q5
 · exact .inr ⟨T, oT, ts, r1, r2, r3, k _ r4, r5⟩
theorem ut {h' : Heap} {Ts : List Addr} (I : Inv X pins σ H s) (hex : X.ex = []) (he : H e = none ∧ X.s₀.heap.get? e = none) (hT : ∀ T ∈ Ts, H T = none ∧ X.s₀.heap.get? T = none) (ff : h'.FunFrames (hid X e Ts s.heap) X.stack)
 {T : Addr} {oT : Obj} {ts : Array Value} (hn : (hid X e Ts s.heap).get? T = none) (ne : T ≠ e) (hg : h'.get? T = some oT) (hd : oT.data = .fields ts) : H T = none ∧ X.s₀.heap.get? T = none := by
 have nf : T ∉ frs X.stack := fun z => by
  obtain ⟨_, o, q, d⟩ := ff.mem z
  rw [hg] at q
  cases q
  exact d ts hd
 have out : T ∈ Ts ∨ s.heap.get? T = none := by
  cases q : s.heap.get? T with
  | none => exact .inr rfl
  | some o =>
   by_cases hm : T ∈ Ts
   · exact .inl hm
   · have := PySem.W.hideAll_get (e :: (Ts ++ frs X.stack)) q (by simp only [List.mem_cons, List.mem_append]; rintro (z | z | z); exact ne z; exact hm z; exact nf z)
     rw [hn] at this
     cases this
 rcases out with hm | hm
 · exact hT T hm
 · constructor
   · cases q : H T with
     | none => rfl
     | some u =>
      have hk := I.hok T u q
      exfalso
      have : ∃ o, s.heap.get? T = some o := by
       clear q
       induction u with
       | lst xs => obtain ⟨_, _, _, _, z⟩ := hk; exact ⟨_, z⟩
       | tup xs => obtain ⟨_, _, _, o, z, _⟩ := hk; exact ⟨_, z⟩
       | dK kvs => obtain ⟨_, _, _, _, o, _, _, z, _⟩ := hk; exact ⟨_, z⟩
       | dT kvs => obtain ⟨_, _, _, _, o, _, _, z, _⟩ := hk; exact ⟨_, z⟩
       | set S n => obtain ⟨o, _, _, _, z, _⟩ := hk; exact ⟨_, z⟩
       | ins C dx fs => obtain ⟨_, _, _, z, _⟩ := hk; exact ⟨_, z⟩
       | own y => obtain ⟨_, z⟩ := hk; exact ⟨_, z⟩
       | xd fs => obtain ⟨_, ⟨_, _, _, z, _⟩, _⟩ := hk; exact ⟨_, z⟩
       | rng lo hi => obtain ⟨_, _, _, z⟩ := hk; exact ⟨_, z⟩
       | frz ob u ih => obtain ⟨z, _⟩ := hk; exact ⟨_, z⟩
       | tbl ps => exact ⟨_, (show s.heap.get? T = some _ from hk)⟩
       | met f y => exact ⟨_, (show s.heap.get? T = some _ from hk)⟩
       | ext φ => obtain ⟨_, ⟨_, z⟩, _⟩ := hk; exact ⟨_, z⟩
      obtain ⟨o, z⟩ := this
      rw [hm] at z
      cases z
   · cases q : X.s₀.heap.get? T with
     | none => rfl
     | some o =>
      obtain ⟨o', z⟩ := I.base.there T o q (by rw [hex]; simp)
      rw [hm] at z
      cases z
theorem pK (I : Inv X pins σ H s) (hex : X.ex = []) (hst : X.stack = X.env :: X.outer) (hfm : X.env.frame = some X.env.locals) (F : Fly (fun a => X.s₀.heap.get? a = none) H e cls s.heap)
 {Q : Unit → Shared → Prop} {E : Value → Shared → Prop} (k : ∀ h' Ts, Fly (fun a => X.s₀.heap.get? a = none) H e cls h' → Aft X e Ts s.heap h' → (∀ b, b = e ∨ b ∈ Ts → H b = none ∧ X.s₀.heap.get? b = none ∧ ∃ o vs, s.heap.get? b = some o ∧ o.data = .fields vs) → Q () { s with heap := h' }) :
 wpAny (model X.prog X.w) X.A (leaving X.env (.ref e)) Q E s := by
 obtain ⟨f1, f2, oe, vs, a0, q1, q2, q3, q4, q5⟩ := F
 have hfr : X.A.frames = some (X.env :: X.outer) := hst ▸ I.ok.frames
 subst q2
 rcases q5 with q5 | ⟨T, oT, ts, r1, r2, r3, r4, r5, r6, r7⟩
 · have b3 : s.heap.FunFrames (hid X e [] s.heap) (X.env :: X.outer) := hst ▸ jz I
   refine wpAny_leaving_firstW (base := hid X e [] s.heap) hfr b3 hfm q1 (fun b o z => PySem.W.of_hideAll _ z) (PySem.W.hideAll_none _ (List.mem_cons_self ..)) q3 q5 q4 fun h' hL => ?_
   obtain ⟨k1, k2, ⟨oe', vs', T, oT, ts, t1, ⟨t2, t3⟩, t4, t5, t6, t7, t8, t9, t10⟩, k4⟩ := hL
   have k2' : h'.FunFrames (hid X e [] s.heap) X.stack := hst ▸ k2
   have nT := ut I hex ⟨f1, f2⟩ (fun _ z => absurd z (by simp)) k2' t6 t7 t8 t9
   refine k h' [] ⟨f1, f2, oe', vs', a0, t1, t2, t4, t3, .inr ⟨T, oT, ts, t5, t7, nT.1, nT.2, t8, t9, t10⟩⟩ (mS I k1 k4) fun b hb => ?_
   rcases hb with rfl | hb
   · exact ⟨f1, f2, oe, vs, q1, q3⟩
   · cases hb
 · have b3 : s.heap.FunFrames (hid X e [T] s.heap) (X.env :: X.outer) := hst ▸ jz I
   have ht : s.heap.TracedW (hid X e [T] s.heap) e oe.cls a0 := ⟨oe, vs, T, oT, ts, q1, ⟨rfl, q4⟩, q3, r1, PySem.W.hideAll_none _ (by simp), r2, r5, r6, r7⟩
   refine wpAny_leaving_nextW (base := hid X e [T] s.heap) hfr b3 hfm ht (fun b o z => PySem.W.of_hideAll _ z) (PySem.W.hideAll_none _ (List.mem_cons_self ..)) fun h' hL => ?_
   obtain ⟨k1, k2, ⟨oe', vs', T', oT', ts', t1, ⟨t2, t3⟩, t4, t5, t6, t7, t8, t9, t10⟩, k4⟩ := hL
   have k2' : h'.FunFrames (hid X e [T] s.heap) X.stack := hst ▸ k2
   have nT := ut I hex ⟨f1, f2⟩ (fun T0 z => by simp at z; subst z; exact ⟨r3, r4⟩) k2' t6 t7 t8 t9
   refine k h' [T] ⟨f1, f2, oe', vs', a0, t1, t2, t4, t3, .inr ⟨T', oT', ts', t5, t7, nT.1, nT.2, t8, t9, t10⟩⟩ (mS I k1 k4) fun b hb => ?_
   rcases hb with rfl | hb
   · exact ⟨f1, f2, oe, vs, q1, q3⟩
   · simp at hb
     subst hb
     exact ⟨r3, r4, oT, ts, r5, r6⟩
end
def CXE (P : Program) (w : World) : CXT := fun outer H s E ev s' => ∃ e cls H', ev = .ref e ∧ s'.os = s.os ∧ AllBare s'.gens ∧ Un (frs outer) [] H H' s.heap s'.heap ∧ HOk P w H' s'.heap ∧ Fly (fun a => s.heap.get? a = none) H' e cls s'.heap ∧ E cls none H'
def spE (K : PySem.W.Frag) (F : List Dv → Option (Rs Dv)) (n : Nat) : Sp := fun vs H Q E => ∃ ds, Reps K H ds vs ∧ ds.length = n ∧ match F ds with
 | some (.ok d) => ∀ v H', Same H H' → Rep K H' d v → Q v H'
 | some (.exc c) => ∀ C H', PySem.W.nsIn K mainGlobals (xnm c) = some (some (.ref C)) → Same H H' → E (.ref C) none H'
 | none => False
def EX (X : Cx) : XK := fun cv _ H1 => ∃ c C, cv = .ref C ∧ PySem.W.nsIn X.K mainGlobals (xnm c) = some (some (.ref C)) ∧ XW X c H1
theorem B6 {X : Cx} (hex : X.ex = []) : mI (CXE X.prog X.w) X (EX X) := by
 intro pins σ H s ev s' I ⟨e, cls, H', he, os, bare, un, hok, F, c, C, hcv, hC, hx⟩
 have I' : Inv X pins σ H' s' := I.call' (ch := []) os un hok bare fun b z => absurd z (by simp)
 refine hx pins σ H' s' ev (fun _ _ z => z) I' ⟨e, C, he, hC, hcv ▸ F.imp fun a ha => ⟨?_, fun p hp z => ?_⟩⟩
 · cases q : X.s₀.heap.get? a with
   | none => rfl
   | some o =>
    obtain ⟨o', z⟩ := I.base.there a o q (by rw [hex]; simp)
    rw [ha] at z
    cases z
 · have := (I.pin p (List.mem_append_left _ hp)).1
   rw [z, ha] at this
   cases this
def aA (F : List Dv → Option (Rs Dv)) (n : Nat) (g : FnA) : FnE := fun ρ => bnd (g ρ) fun ds => if ds.length = n then F ds else none
def AZ (P : Program) (w : World) (K : PySem.W.Frag) (mg : Str → Option Value) (base : Heap) (x : Str) (k : Nat) (ps : List Str) (F : List Dv → Option (Rs Dv)) : Prop :=
 ∃ f fd, FnOk P w K mg base (CXE P w) k f fd ps (spE K F ps.length) ∧ mg x = some (.ref f) ∧ PySem.W.keepIn K (.ref f) = true ∧ Binds K fd ps []
section
variable {X : Cx} {k n : Nat} {ps : List Str} {x : Str} {p pos : Pos} {e : Expr} {es : List Expr} {F : List Dv → Option (Rs Dv)} {g : FnA}
theorem sw {k' : Nat} (k : Nat) (ps : List Str) (F : List Dv → Option (Rs Dv)) (h : AZ X.prog X.w X.K X.mg X.base x k ps F) (hr : Room k' X.A) (hk : k ≤ k') (hex : X.ex = []) (hg : Gl X x) (ha : FA X (e :: es) g) (hn : n = ps.length := by kernel_rfl) (hdb : (x == ("__debug__" : Str)) = false := by kernel_rfl)
 (he : starEach (e :: es) X.env = (false, eval e X.env) :: starEach es X.env := by kernel_rfl) (hpl : (backTo pos (starEach es X.env)).any (·.1) = false := by kernel_rfl) :
 FE X (.Call (.Name x p) (e :: es) [] pos) (aA F n g) := by
 subst hn
 obtain ⟨f, fd, G, hm, hkp, hb⟩ := h
 refine cP (o9 (G.mono hk) hr hg hm hkp hb .nil (B6 hex) ha.h hdb he hpl) fun σ H Q ρ E o => ⟨ρ, E, OutA.bind o fun ds vs H' e rs o1 => ?_⟩
 show spE X.K F ps.length (vs ++ []) H' Q (EX X)
 rw [List.append_nil]
 by_cases hl : ds.length = ps.length
 · rw [if_pos hl] at o1
   refine ⟨ds, rs, hl, ?_⟩
   match hF : F ds with
   | none => rw [hF] at o1; exact o1.elim
   | some (.ok d) => rw [hF] at o1; exact o1
   | some (.exc c) => rw [hF] at o1; exact fun C H1 hC e1 => ⟨c, C, rfl, hC, XW.mono o1 e1⟩
 · rw [if_neg hl] at o1
   exact o1.elim
end
def iX (m : Nat) (fb : FnS) : List Dv → Option (Rs Dv) := fun ds => match fb (ds.map some ++ List.replicate (m - ds.length) none) with
 | some (.nx _) => some (.ok .non)
 | some (.rt d) => some (.ok d)
 | some (.exc c) => some (.exc c)
 | none => none
theorem B7 {P : Program} {w : World} {K : PySem.W.Frag} {mg : Str → Option Value} {base : Heap} {N : List Str} {qual : Str} {scope : Scope} {f : Addr} {cd : Value} {A : Around} {outer : List Env} {s : Shared} {H : Hp} {E : XK} {c : Nat}
 (q : ∀ C H', PySem.W.nsIn K mainGlobals (xnm c) = some (some (.ref C)) → Same H H' → E (.ref C) none H') : XW (mJ (CXE P w) P w K mg base N qual scope f cd A outer s H E) c H := by
 intro pins σ H' s1 ev e1 I ⟨e, C, he, hC, F⟩
 subst he
 have F' : Fly (fun a => s.heap.get? a = none) H' e (.ref C) s1.heap := F.imp fun a ha => ha.1
 refine pK I rfl rfl rfl F' fun h' Ts F2 A2 hf => ?_
 have I2 := Inv.aft (pins := []) (I.pins_of (pins' := []) fun p hp => nomatch hp) A2 rfl fun b hb => ⟨(hf b hb).1, (hf b hb).2.1, fun p hp => absurd (show p ∈ ([] : List (Addr × Obj)) from hp) (by simp), (hf b hb).2.2⟩
 exact ⟨e, .ref C, H', rfl, I.os, I.bare, I2.base, I2.hok, F2, q C H' hC e1⟩
theorem za {k : Nat} {f : Addr} {fd : FuncData} {x : Str} {P : Program} {w : World} {K : PySem.W.Frag} {mg : Str → Option Value} {base : Heap} {qual : Str} {st : Stmt} {F : List Dv → Option (Rs Dv)} {n : Nat} (N ps : List Str) (fb : FnS) (hF : F = iX N.length fb) (hn : n = ps.length)
 (Fn : Fun K x qual st f fd) (S : dW N ps (ar st))
 (hb : ∀ (cdv : Value) (A : Around) (outer : List Env) (s : Shared) (H : Hp) (E : XK), Room k (A.deeper (envOfC qual (ar st) s.heap.objs.size f cdv)) → FSs (mJ (CXE P w) P w K mg base N qual (ar st) f cdv A outer s H E) (cq st) fb) :
 FnOk P w K mg base (CXE P w) (k + 1) f fd ps (spE K F n) := by
 subst hF hn
 obtain ⟨oc, od, kV, doc, pm, an, cdv, ct, osl, rfl, lk, hcd⟩ := Fn.ex
 refine ya lk hcd S (fun vs H Q E h => ?_) fun A outer s H vs Q E hr h => ?_
 · obtain ⟨ds, r, hl, _⟩ := h
   rw [r.length, hl]
 · obtain ⟨ds, r, hl, q⟩ := h
   refine ⟨_, (hb cdv A outer s H E hr).h, ds.map some ++ List.replicate (N.length - ds.length) none, gp r, ?_⟩
   unfold iX at q
   match hf : fb (ds.map some ++ List.replicate (N.length - ds.length) none) with
   | none => rw [hf] at q; exact q.elim
   | some (.exc c) => rw [hf] at q; exact B7 q
   | some (.rt d) => rw [hf] at q; exact fun v H' e r' => q v H' e r'
   | some (.nx ρ) => rw [hf] at q; exact fun σ' H' e _ => q .non H' e rfl
theorem jA {P : Program} {w : World} {H : Hp} {h : Heap} (ok : HOk P w H h) {a : Addr} {u : HO} (q : H a = some u) : ∃ o, h.get? a = some o := by
 have hk := ok a u q
 clear q
 induction u with
 | lst xs => obtain ⟨_, _, _, _, z⟩ := hk; exact ⟨_, z⟩
 | tup xs => obtain ⟨_, _, _, o, z, _⟩ := hk; exact ⟨_, z⟩
 | dK kvs => obtain ⟨_, _, _, _, o, _, _, z, _⟩ := hk; exact ⟨_, z⟩
 | dT kvs => obtain ⟨_, _, _, _, o, _, _, z, _⟩ := hk; exact ⟨_, z⟩
 | set S n => obtain ⟨o, _, _, _, z, _⟩ := hk; exact ⟨_, z⟩
 | ins C dx fs => obtain ⟨_, _, _, z, _⟩ := hk; exact ⟨_, z⟩
 | own y => obtain ⟨_, z⟩ := hk; exact ⟨_, z⟩
 | xd fs => obtain ⟨_, ⟨_, _, _, z, _⟩, _⟩ := hk; exact ⟨_, z⟩
 | rng lo hi => obtain ⟨_, _, _, z⟩ := hk; exact ⟨_, z⟩
 | frz ob u ih => obtain ⟨z, _⟩ := hk; exact ⟨_, z⟩
 | tbl ps => exact ⟨_, (show h.get? a = some _ from hk)⟩
 | met f y => exact ⟨_, (show h.get? a = some _ from hk)⟩
 | ext φ => obtain ⟨_, ⟨_, z⟩, _⟩ := hk; exact ⟨_, z⟩
theorem pL {P : Program} {w : World} {H : Hp} {h : Heap} (ok : HOk P w H h) {a : Addr} (n : h.get? a = none) : H a = none := by
 cases q : H a with
 | none => rfl
 | some u =>
  obtain ⟨o, z⟩ := jA ok q
  rw [n] at z
  cases z
theorem pM {K : PySem.W.Frag} {h : Heap} {mg : Str → Option Value} {x : Str} {C : Addr} {bmB : List Value} {newId : String} (X : K.In h) (hb : mg x = some (.ref C)) (q : PySem.W.excIn K C bmB newId = true) : OwnCls x C bmB newId mg h := by
 constructor
 · exact hb
 unfold PySem.W.excIn at q
 split at q
 · rename_i dd cd sl look
   split at q
   · rename_i C2 rest s0 s1 s2 s3 nid s5 em es
     simp only [Bool.and_eq_true, beq_iff_eq, Bool.not_eq_true'] at q
     have e1 := q.1.1.1.1.1
     have e2 := q.1.1.1.1.2
     have e3 := q.1.1.1.2
     have e4 := q.1.1.2
     have e5 := q.1.2
     have e6 := q.2
     clear q
     subst e1 e2
     obtain ⟨f1, f2, f3, f4, f5, f6, f7, f8, f9, f10, f11⟩ := cd
     dsimp only at em e3 e5 e6
     subst em e3
     obtain ⟨l⟩ := sl
     have e7 : l = [s0, s1, s2, s3, some (.builtin nid), s5] := es
     subst e7
     refine ⟨rest, f4, f1, f5, f2, f6, f7, f8, f9, f10, dd, s0, s1, s2, s3, s5, _, X _ _ look, .of_isNs (PySem.W.isNs_of_in X e5), ?_, PySem.W.tail_of_in X e4⟩
     exact PySem.W.nsMap_none_of_in X e5 e6
   · cases q
 · cases q
abbrev bmV : List Value := [.type "ValueError", .type "Exception", .type "BaseException", .type "object"]
structure XC (K : PySem.W.Frag) (c : Nat) (C : Addr) : Prop where
 nm : PySem.W.nsIn K mainGlobals (xnm c) = some (some (.ref C))
 ex : PySem.W.excIn K C bmV "ValueError.__new__" = true
def aL (c : Nat) (f : FnE) : FnS := fun ρ => bI (f ρ) fun _ => some (.exc c)
section
variable {X : Cx} {a : Expr} {fa : FnE} {np cpos pos : Pos} {x : Str} {C : Addr}
theorem sx (c : Nat) (K : XC X.K c C) (hx : xnm c = x) (hm : X.mg x = some (.ref C)) (hex : X.ex = []) (hc : X.calm = true) (hg : Gl X x) (ha : FE X a fa)
 (he : starEach [a] X.env = (false, eval a X.env) :: starEach [] X.env := by kernel_rfl) (hdb : (x == ("__debug__" : Str)) = false := by kernel_rfl) :
 FS X (.Raise (some (.Call (.Name x np) [a] [] cpos)) none pos) (aL c fa) := by
 subst hx
 constructor
 intro pins s σ H D I ⟨ρ, E, o⟩
 obtain ⟨tl, N, nm, q, bs, hdct, sn, sub, ab, col, dd, k0, k1, k2, k3, k5, mN, hC, hN, hni, T⟩ := (pM I.ok.mod.kin hm K.ex).obj
 refine wpAny_Raise_call_subT (C := C) (nm := nm) (q := q) (N := N) (bs := bs) (bm := tl) (hdct := hdct) (sn := sn) (sub := sub) (ab := ab) (col := col) (dd := dd) (k0 := k0) (k1 := k1) (k2 := k2) (k3 := k3) (k5 := k5) PySem.F.excBase_ValueError (mN := mN)
  (T.hasType PySem.F.excBase_ValueError.hasBase) (I.ok.hd hc) (by rw [he]; rfl) hni (h8 I hg hm ⟨rfl, ?_⟩ hdb)
 have hp := (lC ha pq he).h cpos pins s σ H (fun vs H1 => vs.length = 1 ∧ XW X c H1) I ⟨ρ, E, ?_⟩
 · rw [he] at hp ⊢
   refine Calls.evalArgs_plain (thn hp fun us s2 ⟨vs, H1, I1, rv, hl, hw⟩ => ⟨rfl, ?_, I1.bk _ _ hC, hN.keeps I1.bk, T.keeps I1.bk, fun h' e me => ?_⟩)
   · rw [← rv.length, hl]; decide
   · have I2 : Inv X pins σ H1 { s2 with heap := h' } := I1.kept (t' := s2.toks) me.keeps
     obtain ⟨t, t1, t2, t3⟩ := me.there
     refine hw pins σ H1 _ (.ref e) (fun _ _ z => z) I2 ⟨e, C, rfl, K.nm, pL I1.hok me.new, ⟨?_, fun p hp z => ?_⟩, _, _, .ref t, t1, rfl, rfl, rfl, .inl rfl⟩
     · cases z : X.s₀.heap.get? e with
       | none => rfl
       | some o2 =>
        obtain ⟨o3, z3⟩ := I1.base.there e o2 z (by rw [hex]; simp)
        rw [me.new] at z3
        cases z3
     · have z2 := (I1.pin p (List.mem_append_left _ hp)).1
       rw [z, me.new] at z2
       cases z2
 · show OutA X H (aa fa ae ρ) _
   unfold aa
   unfold aL at o
   match hf : fa ρ with
   | none => rw [hf] at o; exact o.elim
   | some (.exc c2) => rw [hf] at o; exact o
   | some (.ok d) => rw [hf] at o; exact fun vs H1 e1 r => ⟨r.length, XW.mono o e1⟩
end
end FD
namespace FD
open PySem PySem.Spec PyProof.Rows L2 PySem.W Builtin.Getset_descriptor
theorem pN : plainId "BaseException.__getattribute__" = true := by decide +kernel
theorem mT : builtinKind "BaseException.__getattribute__" = some .slot := by decide +kernel
theorem pO : splitId "BaseException.__getattribute__" = some ("BaseException", "__getattribute__") := by decide +kernel
theorem sy (self : Value) : bindSpecial (.builtin "BaseException.__getattribute__") self = pure (.builtin "BaseException.__getattribute__", [self]) := by
 have h1 : withoutEnding? "BaseException.__getattribute__" "#opaque" = none := by decide +kernel
 have h2 : withoutEnding? "BaseException.__getattribute__" "#data" = none := by decide +kernel
 simp only [bindSpecial, typeOf, builtinType, h1, h2, mT]; rfl
section
variable {prog : Program} {w : World} {A : Around} {E : Value → Shared → Prop} {s : Shared} {K : PySem.W.Frag} {x C : Addr} {ox : Obj}
structure XI (K : PySem.W.Frag) (C : Addr) : Prop where
 ga : findIn K (.ref C) "__getattribute__" = some (some (.builtin "BaseException.__getattribute__"))
 gt : findIn K (.ref C) "__getattr__" = some none
 cl : findIn K (.ref C) "__class__" = some (some (.builtin "object.__class__"))
 sp : specialIn K (.builtin "object.__class__") "__get__" = some (some (.builtin "getset_descriptor.__get__"))
 tk : takesIn K (.builtin "object.__class__") = some true
 ob : mroIn K C (.type "object") = some true
 be : mroIn K C (.type "BaseException") = some true
theorem zb (hx : s.heap.get? x = some ox) (hc : ox.cls = .ref C) {M : Model} : Looks M s.heap (typeOf (.ref x)) (.ref C) := hc ▸ (Looks.ld hx).andThen .now
theorem sA (X : K.In s.heap) (k : XI K C) {M : Model} : Looks M s.heap (Builtin.ObjectAttr.find (.ref x) (.ref C) "__class__") (.bind (.builtin "getset_descriptor.__get__") (.builtin "object.__class__")) := by
 have L1 := looks_findIn (M := M) X k.cl
 have L2 := looks_specialIn (M := M) X k.sp
 have L3 := looks_takesIn (M := M) X k.tk
 intro A2 Q2 E2 s2 k2 q2
 unfold Builtin.ObjectAttr.find
 refine wpAny_bind (L1 A2 _ E2 s2 k2 (wpAny_bind (L2 A2 _ E2 s2 k2 (wpAny_bind ?_))))
 unfold Builtin.ObjectAttr.dataDescriptor?
 refine wpAny_bind (L3 A2 _ E2 s2 k2 ?_)
 rw [if_pos rfl]
 exact wpAny_pure (wpAny_bind (wpAny_rule (wpAny_pure q2)))
theorem zc {R : Result → Shared → Prop} {tp : Value} (X : K.In s.heap) (hx : s.heap.get? x = some ox) (hc : ox.cls = .ref C) (hm : mroIn K C (.type "object") = some true)
 (h : R (.ok (.ret (.ref C))) s) : codeAny (model prog w) A (.call (.builtin "getset_descriptor.__get__") ⟨[.builtin "object.__class__", .ref x, tp], []⟩) R s := by
 have L0 := zb (M := model prog w) hx hc
 have L1 := looks_mroIn (M := model prog w) X hm
 obtain ⟨hh, g, dr, t, os⟩ := s
 refine codeAny_call_builtin KF.slot_gs.plain KF.entry_gs (KF.slot_gs.check _ _ _ _ _ _ _ _ KF.type_class (KF.args_gs _ _ _) ?_)
 unfold Builtin.«getset_descriptor.__get__» descrGet
 rw [dga_obj]
 refine wpAny_bind (wpAny_pure ?_)
 unfold descrGetter descrCheckInstance descrNameAndClass isInstance
 simp only [KF.owner_class]
 repeat lk
 refine ⟨Code.quiet_builtin _ (by decide +kernel), codeAny_builtin KF.entry_class ?_⟩
 unfold Builtin.«object.__class__» shownTypeOf
 repeat lk
 exact h
theorem pP {Q : Option Value → Shared → Prop} (X : K.In s.heap) (hx : s.heap.get? x = some ox) (hc : ox.cls = .ref C) (k : XI K C)
 (h : Q (some (.ref C)) { s with toks := s.toks + 1 }) : wpAny (model prog w) A (getAttr? (.ref x) "__class__") Q E s := by
 have L0 := zb (M := model prog w) hx hc
 have L2 := sA (M := model prog w) (x := x) X k
 obtain ⟨hh, g, d, t, os⟩ := s
 have L1 := looks_findIn (M := model prog w) X k.ga
 have L3 := looks_findIn (M := model prog w) X k.gt
 have LB := looks_mroIn (M := model prog w) X k.be
 unfold getAttr? getAttrBy? getAttrBy
 refine wpAny_bind (wpAny_mkText (wpAny_bind (wpAny_attempt (wpAny_holding (wpAny_bind (L0.at (wpAny_bind (L1.at ?_))))))))
 have hne : (Value.builtin "BaseException.__getattribute__" == Value.builtin "object.__getattribute__") = false := by decide +kernel
 dsimp only
 rw [hne, Bool.and_false, if_neg Bool.false_ne_true]
 unfold getAttrByItsOwn
 refine wpAny_bind ?_
 show wpAny _ _ (typeLookup (.ref C) "__getattr__") _ _ _
 refine L3.at ?_
 refine wpAny_bind (wpAny_attempt (wpAny_holding ?_))
 unfold callGetattribute boundAndCalled
 rw [if_neg (by decide)]
 rw [sy]
 refine wpAny_bind (wpAny_pure ?_)
 refine wpAny_call (codeAny_call_builtin pN F.entry_bexc_ga ?_)
 simp only [checkBuiltinCall, mT, pO]
 have ha := F.args_bexc_ga (.ref x) (.str "__class__" t)
 have LI : Looks (model prog w) hh (isInstance (.ref x) (.type "BaseException")) true := L0.andThen LB
 show wpAny _ _ (isInstance (.ref x) (.type "BaseException") >>= _) _ _ _
 refine wpAny_bind (LI.at ?_)
 simp only [Bool.not_true, Bool.false_eq_true, if_false]
 have hz : hh.get? x = some ox ∧ True := ⟨hx, trivial⟩
 clear hx
 repeat (any_goals (first | assumption | wp_step))
 have hx' := hz.1
 refine wpAny_loadPart_at hx' ?_
 refine wpAny_pure ?_
 rw [hc]
 refine wpAny_bind (L2.at ?_)
 dsimp only
 unfold Builtin.ObjectAttr.bindTo
 dsimp only
 refine wpAny_bind (wpAny_holding (wpAny_call (zc (s := ⟨hh, g, d, t + 1, os⟩) (ox := ox) X hx' hc k.ob ?_)))
 refine wpAny_pure ?_
 show wpAny _ _ (handedOut (.ref C)) _ _ _
 rw [handedOut_of rfl]
 exact wpAny_pure (wpAny_pure h)
theorem mU {K : PySem.W.Frag} {C : Addr} {b : Value} {r : Bool} (h : mroIn K C b = some r) : ∃ cd, clsIn K C = some cd := by
 unfold mroIn at h
 cases q : clsIn K C with
 | none => rw [q] at h; cases h
 | some cd => exact ⟨cd, rfl⟩
theorem sB {K : PySem.W.Frag} {x C : Addr} {ox : Obj} (k : XI K C) (hc : ox.cls = .ref C) : KitX K (.ref x) (.ref C) (fun h => h.get? x = some ox) where
 ty := fun M h _ q => hc ▸ (Looks.ld q).andThen .now
 it := fun _ _ X _ => by
  obtain ⟨cd, hc⟩ := mU k.ob
  unfold clsIn at hc
  split at hc
  · rename_i look
    intro A2 Q2 E2 s2 k2 q2
    unfold isType loadHead
    exact wpAny_bind (wpAny_loadPart (k2 _ _ (X _ _ look)) (wpAny_pure q2))
  · cases hc
 ne := fun h tp dd its n sl X htp => by
  obtain ⟨cd, hc⟩ := mU k.ob
  cases z : (Value.ref C == Value.ref tp) with
  | false => rfl
  | true =>
   have e := Value.ref.inj (beq_iff_eq.mp z)
   subst e
   unfold clsIn at hc
   split at hc
   · rename_i look
     cases (X _ _ look).symm.trans htp
   · cases hc
 ca := fun X q z => pP X q hc k z
end
def isX (tb : Nat → Option Bool) : Dv → Option (Rs Dv)
 | .exn c => match tb c with
  | some b => some (.ok (.bl b))
  | none => none
 | _ => none
def XT (K : PySem.W.Frag) (tb : Nat → Option Bool) (T : Value) : Prop := ∀ c b, tb c = some b → ∀ C, nsIn K mainGlobals (xnm c) = some (some (.ref C)) → XI K C ∧ kitOne K (.ref C) T = some b
section
variable {X : Cx} {p pos pT : Pos} {a : Expr} {fa : FnE} {T : Str}
theorem mV {tv : V} {tval : Value} (rt : ∀ u, RelV tv u → u = tval) {tb : Nat → Option Bool} (k : XT X.K tb tval) : CallR X (.builtin "isinstance") (fun xs H Q => ∃ v c b, xs = [v, tv] ∧ Rep X.K H (.exn c) v ∧ tb c = some b ∧ Q (.bl b) H) := by
 intro pins s σ H xs us Q I r h
 obtain ⟨v, c, b, rfl, rv, hb, q⟩ := h
 obtain ⟨a, o, u, C, rfl, hH, hc, hn⟩ := rv.exnE
 obtain ⟨u1, u2, rfl, r1, r2⟩ := x4 r
 cases (show u1 = Value.ref a from r1)
 cases (rt u2 r2)
 obtain ⟨xi, kk⟩ := k c b hb C hn
 have hg : s.heap.get? a = some o := (I.hok a _ hH).1
 exact kia_one (sB xi hc) I.kIn hg kk (by intro z; cases z) fun tk => ⟨.bl b, H, I.tok tk, rfl, q⟩
theorem zd {tb : Nat → Option Bool} {CT : Addr} (k : XT X.K tb (.ref CT)) (hT : X.mg T = some (.ref CT)) (hgT : Gl X T) (hdT : (T == ("__debug__" : Str)) = false) (hg : Gl X "isinstance") (hm : X.mg "isinstance" = none) (ha : FE X a fa)
 (hs1 : starEach [a, .Name T pT] X.env = (false, eval a X.env) :: starEach [.Name T pT] X.env := by kernel_rfl) (hs2 : starEach [.Name T pT] X.env = (false, eval (.Name T pT) X.env) :: starEach [] X.env := by kernel_rfl)
 (hpl : (backTo pos (starEach [.Name T pT] X.env)).any (·.1) = false := by kernel_rfl) :
 FE X (.Call (.Name "isinstance" p) [a, .Name T pT] [] pos) (f1 (isX tb) fa) :=
 cP (eG (mV (tv := .ref CT) (fun u z => z) k) hg hm PyProof.Rows.boot_isinstance (fg ha.h (fg (lu (v := .ref CT) hgT hT rfl hdT) mH hs2) hs1) (by decide) (by decide) hs1 hpl) fun σ H Q ρ E o => ⟨ρ, E, Out.bind o fun d v H1 e1 r o1 => by
  show ∃ v2 c b, [v, V.ref CT] = [v2, V.ref CT] ∧ _
  cases d with
  | exn c =>
   have o2 : Out X H1 (match tb c with | some b => some (.ok (.bl b)) | none => none) Q := o1
   cases q : tb c with
   | none => rw [q] at o2; exact o2.elim
   | some b => rw [q] at o2; exact ⟨v, c, b, rfl, r, q, o2 _ H1 (.refl H1) rfl⟩
  | _ => exact o1.elim⟩
theorem ze {T : String} {tb : Nat → Option Bool} (k : XT X.K tb (.type T)) (hT : bootBuiltins (Str.ofString T) = some (.type T)) (hn : Str.ofString T ≠ "__name__") (hdT : (Str.ofString T == ("__debug__" : Str)) = false)
 (hg : Gl X "isinstance") (hm : X.mg "isinstance" = none) (hgT : Gl X (Str.ofString T)) (hmT : X.mg (Str.ofString T) = none) (ha : FE X a fa)
 (hs1 : starEach [a, .Name (Str.ofString T) pT] X.env = (false, eval a X.env) :: starEach [.Name (Str.ofString T) pT] X.env := by kernel_rfl) (hs2 : starEach [.Name (Str.ofString T) pT] X.env = (false, eval (.Name (Str.ofString T) pT) X.env) :: starEach [] X.env := by kernel_rfl)
 (hpl : (backTo pos (starEach [.Name (Str.ofString T) pT] X.env)).any (·.1) = false := by kernel_rfl) :
 FE X (.Call (.Name "isinstance" p) [a, .Name (Str.ofString T) pT] [] pos) (f1 (isX tb) fa) :=
 cP (eG (mV (tv := .ty T) (fun u z => z) k) hg hm PyProof.Rows.boot_isinstance (fg ha.h (fg (oM (v := .ty T) hgT hmT hT rfl hn hdT) mH hs2) hs1) (by decide) (by decide) hs1 hpl) fun σ H Q ρ E o => ⟨ρ, E, Out.bind o fun d v H1 e1 r o1 => by
  show ∃ v2 c b, [v, V.ty T] = [v2, V.ty T] ∧ _
  cases d with
  | exn c =>
   have o2 : Out X H1 (match tb c with | some b => some (.ok (.bl b)) | none => none) Q := o1
   cases q : tb c with
   | none => rw [q] at o2; exact o2.elim
   | some b => rw [q] at o2; exact ⟨v, c, b, rfl, r, q, o2 _ H1 (.refl H1) rfl⟩
  | _ => exact o1.elim⟩
end
end FD
namespace FD
open PySem PySem.Spec PyProof.Rows L2 PySem.W
section
variable {X : Cx} {pins : List (Addr × Obj)} {σ : L2.St} {H : Hp} {s : Shared}
theorem pQ {M : Model} {A : Around} {E : Value → Shared → Prop} {i : Nat} {x : Str} {v : V} {pos : Pos} {Q : Unit → Shared → Prop} (I : Inv X pins σ H s) (hN : X.N.Nodup) (hi : X.N[i]? = some x) (hk : X.env.scope.names.lookup x = some .local) (hv : σ[i]? = some (some v))
 (h : ∀ s', Inv X pins (σ.set i none) H s' → Q () s') : wpAny M A (unbindBehindTheSuite X.env x pos) Q E s := by
 obtain ⟨m, hn, hl⟩ := id I.loc
 have hkd : X.env.kindOf x = some .local := hk
 obtain ⟨u, ru, lk⟩ := hl i x v hi hv (.inl hk)
 have hm : m x = some u := by
  rcases lk with ⟨_, z⟩ | ⟨z, _⟩
  · exact z
  · rw [hkd] at z
    rcases z with z | z <;> cases z
 have hcls : (X.env.scope.kind == .class || (X.env.scope.kind == .module && X.env.locals != X.env.globals)) = false := by rw [I.ok.kind]; rfl
 have cne := I.cne
 obtain ⟨oL, _, _, hoL, _⟩ := id hn
 refine wpAny_onRaise (wpAny_unbindName_local hkd hn hm hcls fun h' w hn' hs => ?_)
 refine h _ ⟨I.ok, I.os, I.bare, ⟨fun b o e n hb hx => ?_, fun b o e n hb hx => ?_, I.base.free, fun b o e hx => ?_, I.base.tups, I.base.frzs, I.base.tbls⟩, ⟨_, hn', fun j y v' e1 e2 e3 => ?_⟩, fun y c e => ?_, I.free, I.freeC, fun p hp => ?_, fun b ob e => ?_, by simpa using I.len⟩
 · exact (hs.2 b (Nat.ne_of_lt (Nat.lt_of_lt_of_le (Heap.lt_size e) I.ok.above))).trans (I.base.keep b o e n hb hx)
 · obtain ⟨sl, e1⟩ := I.base.slot b o e n hb hx
   exact ⟨sl, (hs.2 b (Nat.ne_of_lt (Nat.lt_of_lt_of_le (Heap.lt_size e) I.ok.above))).trans e1⟩
 · obtain ⟨o', e1⟩ := I.base.there b o e hx
   exact ⟨o', (hs.2 b (Nat.ne_of_lt (Nat.lt_of_lt_of_le (Heap.lt_size e) I.ok.above))).trans e1⟩
 · by_cases hj : j = i
   · subst hj
     have hjl : j < σ.length := by rw [I.len]; exact (List.getElem?_eq_some_iff.mp hi).1
     rw [List.getElem?_set_self hjl] at e2
     cases e2
   · rw [List.getElem?_set_ne (Ne.symm hj)] at e2
     obtain ⟨u', r', q⟩ := hl j y v' e1 e2 e3
     refine ⟨u', r', ?_⟩
     rcases q with ⟨k, e⟩ | ⟨k, c, e, z⟩
     · refine .inl ⟨k, ?_⟩
       have : y ≠ x := fun e => hj (jm hN e1 (e ▸ hi))
       simp [this, e]
     · exact .inr ⟨k, c, e, z.sameBut hs (cne y c e)⟩
 · obtain ⟨w', z⟩ := I.cell y c e
   exact ⟨w', z.sameBut hs (cne y c e)⟩
 · obtain ⟨e, n, ne, nf, d⟩ := I.pin p hp
   exact ⟨(hs.2 p.1 ne).trans e, n, ne, nf, d⟩
 · refine (I.hok b ob e).stay (fun c w' hc q => (hs.2 c ?_).trans q) (fun _ q => q) fun _ _ q => q
   rintro rfl
   rcases hc with hc | hc
   · rw [← hc, I.free] at e; cases e
   · rw [I.free] at hc; cases hc
theorem Inv.freeze {e : Addr} {oe : Obj} {vs : Array Value} (I : Inv X pins σ H s) (he : H e = none) (hg : s.heap.get? e = some oe) (hd : oe.data = .fields vs) (h0 : X.s₀.heap.get? e = none) (hp : ∀ p ∈ X.pn ++ pins, p.1 ≠ e) :
 Inv X pins σ (upd H e (.frz oe (.ext fun _ => True))) s := by
 have ne : ∀ b u, H b = some u → b ≠ e := fun b u q => aB q he
 refine ⟨I.ok, I.os, I.bare, ⟨I.base.keep, I.base.slot, fun b o q n hx => ?_, I.base.there, fun b xs q => ?_, fun b o u q => ?_, fun b ps q => ?_⟩, I.loc, I.cell, ?_, fun x c q => ?_, fun p hp' => ?_, fun b u q => ?_, I.len⟩
 · have hb : b ≠ e := fun z => by rw [z, h0] at q; cases q
   rw [az hb]
   exact I.base.free b o q n hx
 · have q' := I.base.tups b xs q
   rw [az (ne b _ q')]
   exact q'
 · have q' := I.base.frzs b o u q
   rw [az (ne b _ q')]
   exact q'
 · obtain ⟨more, q'⟩ := I.base.tbls b ps q
   exact ⟨more, by rw [az (ne b _ q')]; exact q'⟩
 · obtain ⟨m, ⟨o, es, ep, ho, hdd, _⟩, _⟩ := I.loc
   have hb : X.env.locals ≠ e := fun z => by rw [z, hg] at ho; cases ho; rw [hd] at hdd; cases hdd
   rw [az hb]
   exact I.free
 · obtain ⟨v, o, ho, hdd⟩ := I.cell x c q
   have hb : c ≠ e := fun z => by rw [z, hg] at ho; cases ho; rw [hd] at hdd; cases hdd
   rw [az hb]
   exact I.freeC x c q
 · obtain ⟨q1, q2, q3⟩ := I.pin p hp'
   exact ⟨q1, by rw [az (hp p hp')]; exact q2, q3⟩
 · by_cases hb : b = e
   · subst hb
     rw [av] at q
     cases q
     exact ⟨hg, trivial, ⟨oe, hg⟩, fun _ _ _ _ => trivial⟩
   · rw [az hb] at q
     exact (I.hok b u q).stay (fun _ _ _ z => z) (fun c z => by rw [az (ne c _ z)]; exact z) fun c xs z => by rw [az (ne c _ z)]; exact z
end
structure RoomM (k : Nat) (A : Around) : Prop where
 dp : A.depth + 3 * k + 5 < recursionLimit
 un : A.units + 16 * k + 200 < cLine
theorem RoomM.of {k : Nat} {A : Around} (r : Room k A) : RoomM k A := ⟨r.dp, r.un⟩
theorem RoomM.mono {j k : Nat} {A : Around} (r : RoomM k A) (h : j ≤ k) : RoomM j A := ⟨by have := r.dp; omega, by have := r.un; omega⟩
theorem RoomM.deeper {k : Nat} {A : Around} (r : RoomM (k + 1) A) (env : Env) : RoomM k (A.deeper env) :=
 ⟨by have := r.dp; show A.depth + 1 + 3 * k + 5 < _; omega, by have := r.un; show A.units + 3 + 16 * k + 200 < _; omega⟩
theorem RoomM.units {k : Nat} {A : Around} (r : RoomM k A) : A.units + 64 < cLine := by have := r.un; omega
structure FnM (P : Program) (w : World) (K : PySem.W.Frag) (mg : Str → Option Value) (base : Heap) (k : Nat) (f : Addr) (fd : FuncData) (ps : List Str) (F : List Dv → Option (Rs Dv)) : Prop where
 run : ∀ (A : Around) (outer : List Env) (s : Shared) (H : Hp) (args : Args) (us : List Value) (vs : List V) (ds : List Dv) (d : Dv) (Q : VK), RoomM k A → Env0 P w K mg base A outer s H → BindsTo s fd args (ps.zip us) → Vals vs us →
  Reps K H ds vs → ds.length = ps.length → F ds = some (.ok d) → (∀ v H', Same H H' → Rep K H' d v → Q v H') → codeAny (model P w) A (.call (.ref f) args) (CR CX0 outer P w H s Q E0) s
def A0 (P : Program) (w : World) (K : PySem.W.Frag) (mg : Str → Option Value) (base : Heap) (x : Str) (k : Nat) (ps : List Str) (F : List Dv → Option (Rs Dv)) : Prop :=
 ∃ f fd, FnM P w K mg base k f fd ps F ∧ mg x = some (.ref f) ∧ PySem.W.keepIn K (.ref f) = true ∧ Binds K fd ps []
section
variable {X : Cx} {x : Str} {p pos : Pos} {e : Expr} {es : List Expr} {g : FnA} {n : Nat}
theorem sC {k' : Nat} (k : Nat) (ps : List Str) (F : List Dv → Option (Rs Dv)) (h : A0 X.prog X.w X.K X.mg X.base x k ps F) (hr : RoomM k' X.A) (hk : k ≤ k') (hg : Gl X x) (ha : FA X (e :: es) g) (hn : n = ps.length := by kernel_rfl) (hdb : (x == ("__debug__" : Str)) = false := by kernel_rfl)
 (he : starEach (e :: es) X.env = (false, eval e X.env) :: starEach es X.env := by kernel_rfl) (hpl : (backTo pos (starEach es X.env)).any (·.1) = false := by kernel_rfl) :
 FE X (.Call (.Name x p) (e :: es) [] pos) (ag F n g) := by
 subst hn
 obtain ⟨f, fd, G, hm, hkp, hb⟩ := h
 constructor
 intro pins s σ H Q I ⟨ρ, E, o⟩
 have hp : wpAny (model X.prog X.w) X.A (spliced (backTo pos (starEach (e :: es) X.env))) (AP X pins σ fun vs H1 => ∃ ds, Reps X.K H1 ds vs ∧ ds.length = ps.length ∧ ∃ d, F ds = some (.ok d) ∧ ∀ v H', Same H1 H' → Rep X.K H' d v → Q v H') X.xe s := by
  refine ha.h pos pins s σ H _ I ⟨ρ, E, OutA.bind o fun ds vs H' e rs o1 => ?_⟩
  by_cases hl : ds.length = ps.length
  · rw [if_pos hl] at o1
    refine ⟨ds, rs, hl, ?_⟩
    match hF : F ds with
    | none => rw [hF] at o1; exact o1.elim
    | some (.exc c) => rw [hF] at o1; exact o1.elim
    | some (.ok d) => rw [hF] at o1; exact ⟨d, rfl, o1⟩
  · rw [if_neg hl] at o1
    exact o1.elim
 refine wpAny_Call_Name_kw (h8 I hg hm ?_ hdb)
 refine PySem.W.callWith_K (h₀ := X.base) I.ok.mod.kin hkp (thn hp fun us s1 ⟨vs, H1, I1, r, ds, rs, hl, d, hF, q⟩ => ⟨I1.kIn, ?_⟩) he hpl
 have hlen : us.length = ps.length := by rw [← r.length, rs.length, hl]
 have hb' : BindsTo s1 fd ⟨us, []⟩ (ps.zip us) := by
  have z := hb s1 us I1.kIn (by rw [List.append_nil]; exact hlen)
  rw [List.append_nil] at z
  exact z
 refine wpAny_call (codeAny_mono (G.run X.A X.stack s1 H1 ⟨us, []⟩ us vs ds d Q (hr.mono hk) I1.env0 hb' r rs hl hF q) fun r s' hq => ?_)
 cases r with
 | error e => exact hq.elim
 | ok fl =>
  cases fl with
  | ret u => exact I1.after hq
  | next => exact False.elim hq
  | brk => exact False.elim hq
  | cont => exact False.elim hq
end
def cxM (P : Program) (w : World) (K : PySem.W.Frag) (mg : Str → Option Value) (base : Heap) (N : List Str) (qual : Str) (scope : Scope) (f : Addr) (cd : Value) (A : Around) (outer : List Env) (s : Shared) (H : Hp) : Cx :=
 { mJ CX0 P w K mg base N qual scope f cd A outer s H E0 with calm := false, xe := fun _ _ => False }
theorem zf {k : Nat} {f : Addr} {fd : FuncData} {x : Str} {P : Program} {w : World} {K : PySem.W.Frag} {mg : Str → Option Value} {base : Heap} {qual : Str} {st : Stmt} {F : List Dv → Option (Rs Dv)} (N ps : List Str) (fb : FnS) (hF : F = aZ N.length fb)
 (Fn : Fun K x qual st f fd) (S : dW N ps (ar st))
 (hb : ∀ (cdv : Value) (A : Around) (outer : List Env) (s : Shared) (H : Hp), RoomM k (A.deeper (envOfC qual (ar st) s.heap.objs.size f cdv)) → FSs (cxM P w K mg base N qual (ar st) f cdv A outer s H) (cq st) fb) :
 FnM P w K mg base (k + 1) f fd ps F := by
 subst hF
 obtain ⟨oc, od, kV, doc, pm, an, cdv, ct, osl, rfl, lk, hcd⟩ := Fn.ex
 refine ⟨fun A outer s H args us vs ds d Q hr e0 hbd r rs hl hF q => ?_⟩
 have hlv : vs.length = ps.length := by rw [rs.length, hl]
 have KX : K.In s.heap := e0.mod.kin.keeps fun b o e => (e0.bs b o e).1
 have lim : s.heap.NoLimit := e0.mod.nolimit.keeps fun b o e => (e0.bs b o e).1
 have hkind : ∀ y ∈ ps.zip us, (ar st).names.lookup y.1 = some .local ∨ ((ar st).names.lookup y.1 = some .cell ∧ ((cellsFrom (s.heap.objs.size + 1) (ar st).names []).lookup y.1).isSome = true) := fun ⟨n, v⟩ hy => by
  rcases S.par n (List.of_mem_zip hy).1 with z | z
  · exact .inl z
  · exact .inr ⟨z, PySem.W.cellsFrom_some _ _ _ (.inl z)⟩
 have hdp : A.depth < recursionLimit := by have := hr.dp; omega
 refine codeAny_call_function hdp (KX _ _ lk) rfl S.co S.gen rfl (PySem.W.codeRec_of KX hcd) (hbd _ _ _ _ ?_)
 refine wpAny_newFunctionEnv_cells S.kind hkind fun env he s1 x => ?_
 subst he
 refine ⟨lim.keeps x.toInCall.keep, codeAny_func ?_⟩
 have e1 : Env0 P w K mg base { A with handled := none } outer s H := ⟨e0.frames, e0.mod, e0.bs, e0.bsz, e0.funs, e0.frf, e0.hok, e0.bare⟩
 have I0 : Inv (mJ CX0 P w K mg base N qual (ar st) f cdv { A with handled := none } outer s H E0) [] (start N vs) H s1 := j3 S rfl e1 hlv r x
 have I : Inv (cxM P w K mg base N qual (ar st) f cdv A outer s H) [] (start N vs) H s1 :=
  ⟨⟨I0.ok.mod, I0.ok.kind, I0.ok.glob, I0.ok.blt, I0.ok.above, I0.ok.inj, I0.ok.has, I0.ok.cab, (fun z => absurd z Bool.false_ne_true), Around.frames_deeper e0.frames, I0.ok.stk, I0.ok.exf, I0.ok.bs, I0.ok.bsz, I0.ok.noex, I0.ok.exfs, I0.ok.funs, I0.ok.frf⟩,
   I0.os, I0.bare, I0.base, I0.loc, I0.cell, I0.free, I0.freeC, I0.pin, I0.hok, I0.len⟩
 have fin : ∀ {s' : Shared} {σ' : L2.St} {H' : Hp} {v : V} {u : Value}, Inv (cxM P w K mg base N qual (ar st) f cdv A outer s H) [] σ' H' s' → RelV v u → Q v H' → CE outer P w H s Q u s' := fun {s' σ' H' v u} J rv q => ⟨v, H', J.os, J.bare, J.base, J.hok, rv, q⟩
 have hq : OutS (cxM P w K mg base N qual (ar st) f cdv A outer s H) H (fb (ds.map some ++ List.replicate (N.length - ds.length) none)) { nx := fun _ H' => Q .non H', rt := Q } := by
  unfold aZ at hF
  match hf : fb (ds.map some ++ List.replicate (N.length - ds.length) none) with
  | none => rw [hf] at hF; cases hF
  | some (.exc c) => rw [hf] at hF; cases hF
  | some (.rt d') => rw [hf] at hF; cases hF; exact q
  | some (.nx ρ) => rw [hf] at hF; cases hF; exact fun σ' H' e _ => q .non H' e rfl
 refine wpAny_mono ((hb cdv A outer s H (hr.deeper _)).h [] s1 (start N vs) H _ I ⟨_, gp rs, hq⟩) (fun fl s' hs => ?_) fun e s' hs => hs.elim
 cases fl with
 | ret u =>
  obtain ⟨v, σ', H', J, rv, z⟩ := hs
  exact fin J rv z
 | next =>
  obtain ⟨σ', H', J, z⟩ := hs
  exact fin (v := V.non) (u := Value.none) J rfl z
 | brk =>
  obtain ⟨_, _, _, z⟩ := hs
  exact False.elim z
 | cont =>
  obtain ⟨_, _, _, z⟩ := hs
  exact False.elim z
abbrev xu (X : Cx) (pl : List (Addr × Obj)) (E : Value → Shared → Prop) : Cx := { X with pn := X.pn ++ pl, xe := E }
abbrev kl (X : Cx) (pl : List (Addr × Obj)) (e : Addr) : Cx := { X with A := X.A.mark (some (.ref e)), calm := false, pn := X.pn ++ pl, xe := fun _ _ => False }
section
variable {X : Cx} {pl ps : List (Addr × Obj)} {σ : L2.St} {H : Hp} {s : Shared} {E : Value → Shared → Prop} {e : Addr}
theorem vN (I : Inv X pl σ H s) : Inv (xu X pl E) [] σ H s :=
 ⟨⟨I.ok.mod, I.ok.kind, I.ok.glob, I.ok.blt, I.ok.above, I.ok.inj, I.ok.has, I.ok.cab, I.ok.hd, I.ok.frames, I.ok.stk, I.ok.exf, I.ok.bs, I.ok.bsz, I.ok.noex, I.ok.exfs, I.ok.funs, I.ok.frf⟩,
  I.os, I.bare, I.base, I.loc, I.cell, I.free, I.freeC, fun p hp => I.pin p (by simpa using hp), I.hok, I.len⟩
theorem ik (I : Inv (xu X pl E) ps σ H s) : Inv X pl σ H s :=
 ⟨⟨I.ok.mod, I.ok.kind, I.ok.glob, I.ok.blt, I.ok.above, I.ok.inj, I.ok.has, I.ok.cab, I.ok.hd, I.ok.frames, I.ok.stk, I.ok.exf, I.ok.bs, I.ok.bsz, I.ok.noex, I.ok.exfs, I.ok.funs, I.ok.frf⟩,
  I.os, I.bare, I.base, I.loc, I.cell, I.free, I.freeC, fun p hp => I.pin p (List.mem_append_left _ hp), I.hok, I.len⟩
theorem mW (I : Inv X pl σ H s) : Inv (kl X pl e) [] σ H s :=
 ⟨⟨I.ok.mod, I.ok.kind, I.ok.glob, I.ok.blt, I.ok.above, I.ok.inj, I.ok.has, I.ok.cab, fun z => absurd z Bool.false_ne_true, I.ok.frames, I.ok.stk, I.ok.exf, I.ok.bs, I.ok.bsz, I.ok.noex, I.ok.exfs, I.ok.funs, I.ok.frf⟩,
  I.os, I.bare, I.base, I.loc, I.cell, I.free, I.freeC, fun p hp => I.pin p (by simpa using hp), I.hok, I.len⟩
theorem oa (ok : X.Ok) (I : Inv (kl X pl e) ps σ H s) : Inv X pl σ H s :=
 ⟨ok, I.os, I.bare, I.base, I.loc, I.cell, I.free, I.freeC, fun p hp => I.pin p (List.mem_append_left _ hp), I.hok, I.len⟩
theorem sD {Y : Cx} (I : Inv Y ps σ H s) (hex : Y.ex = []) (hst : Y.stack = Y.env :: Y.outer) (hfm : Y.env.frame = some Y.env.locals) {cls : Value} (F : Fly (BE Y) H e cls s.heap)
 {Q : Unit → Shared → Prop} {E1 E2 : Value → Shared → Prop} (k : ∀ h' Ts a0, (hid Y e Ts s.heap).StaysIn h' → h'.FunFrames (hid Y e Ts s.heap) Y.stack → h'.TracedW (hid Y e Ts s.heap) e cls a0 →
  (∀ b o, s.heap.get? b = some o → (∀ vs, o.data ≠ .fields vs) → ∃ sl, h'.get? b = some { o with slots := sl }) →
  (∀ b, b = e ∨ b ∈ Ts → H b = none ∧ BE Y b ∧ ∃ o vs, s.heap.get? b = some o ∧ o.data = .fields vs) → Q () { s with heap := h' }) :
 wpAny (model Y.prog Y.w) Y.A (noteFrame (.ref e) Y.env) (fun _ s2 => wpAny (model Y.prog Y.w) Y.A (setFlight (.ref e) none) Q E1 s2) E2 s := by
 obtain ⟨f1, f2, oe, vs, a0, q1, q2, q3, q4, q5⟩ := F
 have hfr : Y.A.frames = some (Y.env :: Y.outer) := hst ▸ I.ok.frames
 subst q2
 rcases q5 with q5 | ⟨T, oT, ts, r1, r2, r3, r4, r5, r6, r7⟩
 · have b3 : s.heap.FunFrames (hid Y e [] s.heap) (Y.env :: Y.outer) := hst ▸ jz I
   have go : ∀ h', Heap.NotedW (hid Y e [] s.heap) (Y.env :: Y.outer) e oe.cls a0 (rawInt Y.env.locals) s.heap h' → wpAny (model Y.prog Y.w) Y.A (setFlight (.ref e) none) Q E1 { s with heap := h' } := fun h' ⟨k1, k2, k3, k4⟩ =>
    wpAny_setFlight_noneW (s := { s with heap := h' }) k1 k2 k3 fun h2 m1 m2 m3 m4 => k h2 [] a0 m1 (hst ▸ m2) m3 (fun b o q d => by
     obtain ⟨sl, q'⟩ := k4 b o q d
     exact ⟨sl, m4 b _ q' d⟩) fun b hb => by
      rcases hb with rfl | hb
      · exact ⟨f1, f2, oe, vs, q1, q3⟩
      · cases hb
   unfold noteFrame
   simp only [hfm]
   refine wpAny_bind (wpAny_field q1 q3 q5 ?_)
   rw [if_neg (by decide)]
   exact wpAny_entryW hfr b3 hfm q1 (fun b o z => PySem.W.of_hideAll _ z) (PySem.W.hideAll_none _ (List.mem_cons_self ..)) q3 (Array.getElem?_eq_some_iff.mp q5).1 q4 go
 · have b3 : s.heap.FunFrames (hid Y e [T] s.heap) (Y.env :: Y.outer) := hst ▸ jz I
   have ht : s.heap.TracedW (hid Y e [T] s.heap) e oe.cls a0 := ⟨oe, vs, T, oT, ts, q1, ⟨rfl, q4⟩, q3, r1, PySem.W.hideAll_none _ (by simp), r2, r5, r6, r7⟩
   refine wpAny_noteFrame_onW hfr b3 hfm ht (fun b o z => PySem.W.of_hideAll _ z) (PySem.W.hideAll_none _ (List.mem_cons_self ..)) fun h' ⟨k1, k2, k3, k4⟩ => ?_
   refine wpAny_setFlight_noneW (s := { s with heap := h' }) k1 k2 k3 fun h2 m1 m2 m3 m4 => k h2 [T] a0 m1 (hst ▸ m2) m3 (fun b o q d => by
    obtain ⟨sl, q'⟩ := k4 b o q d
    exact ⟨sl, m4 b _ q' d⟩) fun b hb => by
     rcases hb with rfl | hb
     · exact ⟨f1, f2, oe, vs, q1, q3⟩
     · simp at hb
       subst hb
       exact ⟨r3, r4, oT, ts, r5, r6⟩
theorem pR {prog : Program} {w : World} {A : Around} {E1 : Value → Shared → Prop} {K : PySem.W.Frag} {mg mg2 : Str → Option Value} {C J : Addr} {oe : Obj} {y z : Str} {Q : Bool → Shared → Prop} (X : K.In s.heap) (hC : OwnCls y C bmV "ValueError.__new__" mg s.heap) (hJ : OwnCls z J bmV "ValueError.__new__" mg2 s.heap)
 (he : s.heap.get? e = some oe) (hc : oe.cls = .ref C) (hm : mroIn K C (.ref J) = some true) (h : Q true s) : wpAny (model prog w) A (excMatches (.ref e) (.ref J)) Q E1 s := by
 obtain ⟨tl, N, nm, q, bs, hdct, sn, sub, ab, col, dd, k0, k1, k2, k3, k5, mN, hC, hN, hni, T⟩ := hC.obj
 obtain ⟨tl', N', nm', q', bs', hdct', sn', sub', ab', col', dd', l0, l1, l2, l3, l5, mN', hJ, hN', hni', T'⟩ := hJ.obj
 obtain ⟨hh, g, d, t, os⟩ := s
 have hcB : (Value.ref J :: tl').contains (.type "BaseException") = true := by rw [List.contains_cons, T'.hasType PySem.F.excBase_ValueError.hasBase, Bool.or_true]
 have hcC : (Value.ref C :: tl).contains (.ref J) = true := by
  unfold mroIn at hm
  obtain ⟨cd, a, b⟩ := Option.bind_eq_some_iff.mp hm
  split at b
  · cases b
  · have b' := Option.some.inj b
    unfold clsIn at a
    split at a
    · rename_i look
      cases a
      have z := (X _ _ look).symm.trans hC
      cases z
      exact b'
    · cases a
 have f := tc_notTuple
 unfold excMatches
 repeat (first | (with_reducible refine wpAny_loadPart_at he ?_; rw [hc]) | with_reducible refine wpAny_loadPart_at hJ ?_ | (with_reducible refine wpAny_isSubtype_exc hJ ?_; rw [hcB]) | (with_reducible refine wpAny_isSubtype_exc hC ?_; rw [hcC]) | wp_step)
 exact h
end
section
variable {X : Cx} {ex hx : Expr} {f g : FnE} {J n : Str} {CJ : Addr} {np rp rp2 hpos pos : Pos}
end
end FD
namespace FD
open PySem PySem.Spec PyProof.Rows L2
def zg : List Dv → List Dv → Option (Rs Dv)
 | xs, [x] => if dD x && xs.all dD && decide (xs.length ≤ 100000) then some (.ok (.int (xs.countP (fun y => eqF y x) : Nat))) else none
 | _, _ => none
def zh : V → List V → Hp → VK → Prop := fun x xs H Q => ∃ a vs y, x = .ref a ∧ xs = [y] ∧ H a = some (.lst vs) ∧ dR y = true ∧ vs.all dR = true ∧ vs.length ≤ 100000 ∧ Q (.int (vs.countP (fun v => eqV v y) : Nat)) H
section
variable {X : Cx} {apos cpos : Pos} {e o : Expr} {es : List Expr} {ga : FnA} {fo : FnE}
theorem iY {y : V} : ∀ {vs : List V} {its : List Value}, Vals vs its → vs.all dR = true → its.countP (eqU y) = vs.countP fun v => eqV v y
 | _, _, .nil, _ => rfl
 | _, _, .cons (a := v) (b := u) r t, f => by
  rw [List.all_cons, Bool.and_eq_true] at f
  rw [List.countP_cons, List.countP_cons, iY t f.2, mL r f.1]
theorem pS : MtR X "list.count" zh := by
 intro pins s σ H x xs v us Q I rx rs h
 obtain ⟨a, vs, y, rfl, rfl, h1, fy, fv, hz, q⟩ := h
 cases rx
 obtain ⟨u, rfl, ru⟩ := dQ rs
 obtain ⟨z, its, n, rv, hl, e⟩ := I.lstM h1
 refine call_meets PySem.F.slot_list_count ⟨_, e, rfl⟩ PySem.F.entry_list_count (PySem.F.args_list_count_2 _ _) (SeqAt.list_countAt a its.toArray n none #[] u (eqU y)) ⟨e, fun t ht => dB ru fy rv fv t (by simpa using ht), ⟨.int (vs.countP (fun v => eqV v y) : Nat), H, I.tok _, ⟨s.toks, ?_⟩, q⟩⟩
 have := iY (y := y) rv fv
 rw [List.toList_toArray, this]
theorem uu {K : PySem.W.Frag} {H : Hp} {x : Dv} {u : V} (q : Rep K H x u) (hx : dD x = true) : ∀ {xs : List Dv} {vs : List V}, Reps K H xs vs → xs.all dD = true → vs.countP (fun v => eqV v u) = xs.countP fun y => eqF y x
 | [], vs, r, _ => by cases (show vs = [] from r); rfl
 | y :: ys, vs, r, f => by
  obtain ⟨v, ws, rfl, r1, r2⟩ : ∃ v us, vs = v :: us ∧ Rep K H y v ∧ Reps K H ys us := r
  rw [List.all_cons, Bool.and_eq_true] at f
  rw [List.countP_cons, List.countP_cons, uu q hx r2 f.2, pE r1 q f.1 hx]
theorem sE (ho : FE X o fo) (ha : FA X (e :: es) ga)
 (hbase : attributeBase o "count" X.env (eval o X.env) = eval o X.env := by kernel_rfl)
 (hfew : ((backTo cpos (starEach (e :: es) X.env)).all (fun x => !x.1) && (backToKw cpos (keywordEach [] X.env)).all (fun x => x.1.isSome)
   && decide ((e :: es).length + ([] : List Keyword).length + (if ([] : List Keyword).isEmpty then 0 else 1) < 30)) = true := by kernel_rfl)
 (hline : (apos.endLine == cpos.line) = true := by kernel_rfl) (hs : starEach (e :: es) X.env = (false, eval e X.env) :: starEach es X.env := by kernel_rfl) (hplain : (backTo cpos (starEach es X.env)).any (·.1) = false := by kernel_rfl) :
 FE X (.Call (.Attribute o "count" apos) (e :: es) [] cpos) (fML zg fo ga) :=
 cP (rV PySem.F.plainAttrs_list PySem.F.slot_list_count PySem.F.type_list_count pS ho.h ha.h hbase hfew hline hs hplain) fun σ H Q ρ E o => ⟨ρ, E, Out.bind o fun d v H1 e1 rd o1 => by
  cases d <;> try exact (show False from o1).elim
  rename_i ds
  obtain ⟨a, vs, rfl, h1, h2⟩ := rd.lstE
  refine ⟨.inl ⟨rfl, vs, SqL.of h1⟩, ρ, E.mono e1, OutA.bind o1 fun es ws H2 e2 rs o2 => ?_⟩
  unfold zg at o2
  split at o2
  · rename_i x
    split at o2
    · rename_i hc
      rw [Bool.and_eq_true, Bool.and_eq_true] at hc
      obtain ⟨w, rfl, rw'⟩ := da rs
      have h2' := Reps.mono e2 _ _ h2
      refine ⟨a, vs, w, rfl, rfl, e2 _ _ h1, jw rw' hc.1.1, gW h2' hc.1.2, by rw [h2.length]; exact of_decide_eq_true hc.2, ?_⟩
      rw [uu rw' hc.1.1 h2' hc.1.2]
      exact o2 _ H2 (.refl H2) rfl
    · exact o2.elim
  · exact o2.elim⟩
end
section
variable {X : Cx} {a b c : Expr} {fa fb fc : FnE} {pos : Pos}
theorem zi {r r' : R2} {g g' : Dv → Dv → Option (Rs Dv)} (hg : GOp X r g) (hg' : GOp X r' g') {σ : L2.St} {H : Hp} {Q : VK} {ρ : Ev} (E : Envs X.K H σ ρ) (o : Out X H (gK g g' fa fb fc ρ) Q) : o6 r r' (tF X fa) (tF X fb) (tF X fc) σ H Q :=
 ⟨ρ, E, Out.bind o fun dx x H1 e1 rx o1 => ⟨ρ, E.mono e1, Out.bind o1 fun dy y H2 e2 ry o2 => hg dx dy x y H2 _ (Rep.mono e2 dx x rx) ry (Out.bind o2 fun dz z H3 e3 rz o3 => by
  obtain ⟨k, rfl, o4⟩ := jt rz o3
  refine ⟨k, rfl, ?_⟩
  cases k with
  | false => exact ub (o4 (.bl false) H3 (.refl H3) rfl)
  | true => exact uc ⟨ρ, (E.mono e1).mono (e2.trans e3), Out.bind o4 fun dw w H4 e4 rw' o5 => hg' dy dw y w H4 Q (Rep.mono (e3.trans e4) dy y ry) rw' o5⟩)⟩⟩
theorem sF {op op' : CmpOp} {r r' : R2} {g g' : Dv → Dv → Option (Rs Dv)} (ho : OpR X (compareOp op) r) (hg : GOp X r g) (ho' : OpR X (compareOp op') r') (hg' : GOp X r' g') (ha : FE X a fa) (hb : FE X b fb) (hc : FE X c fc)
 (hm : lastMarks [op, op'] [b, c] = false := by kernel_rfl) : FT X (.Compare a [op, op'] [b, c] pos) (fB (gK g g' fa fb fc)) :=
 rY (rR ho ho' ha.h hb.h hc.h hm) fun σ H Q ρ E o => by
  show o6 r r' (tF X fa) (tF X fb) (tF X fc) σ H _
  exact zi hg hg' E (Out.bindB o fun d v H' e r o' => jr r o')
end
def mX (x : Str) (n : Int) : Str := if n < 1 then Str.empty else if (n == 1 || x.length == 0) = true then x else ⟨(List.replicate n.toNat x.cps).foldl (· ++ ·) #[]⟩
def DI : Dv → Dv → Option (Rs Dv)
 | .str x, .int n => if x.length ≤ 1000 ∧ -1000 ≤ n ∧ n ≤ 1000 then some (.ok (.str (mX x n))) else none
 | x, y => fI x y
section
variable {X : Cx}
def sG : R2 := fun x y H Q => ∃ i n, x = .str i ∧ y = .int n ∧ (i.length ≤ 1000 ∧ -1000 ≤ n ∧ n ≤ 1000) ∧ Q (.str (mX i n)) H
theorem mY (a : Array Nat) : ∀ (k : Nat) (acc : Array Nat), ((List.replicate k a).foldl (· ++ ·) acc).size = acc.size + k * a.size
 | 0, acc => by simp
 | k + 1, acc => by
  rw [List.replicate_succ, List.foldl_cons, mY a k (acc ++ a), Array.size_append, Nat.succ_mul]
  omega
theorem pU {a n : Nat} (h1 : a ≤ 1000) (h2 : n ≤ 1000) : n * a ≤ sizeLine := by
 have h3 : n * a ≤ 1000 * 1000 := Nat.mul_le_mul h2 h1
 rw [sizeLine_eq]
 exact Nat.le_trans h3 (by decide)
theorem op_mulS : OpR X (binaryOp .Mult) sG := by
 intro pins s σ H x y v u Q I rx ry ⟨i, n, hx, hy, hc, q⟩
 subst hx hy
 obtain ⟨t, rfl⟩ := rx
 obtain ⟨t2, rfl⟩ := ry
 have h0 : (decide (n < -(2 ^ 63 : Int)) || decide (n ≥ 2 ^ 63)) = false := by
  have h1 : ¬ n < -(2 ^ 63 : Int) := by omega
  have h2 : ¬ n ≥ 2 ^ 63 := by omega
  rw [decide_eq_false h1, decide_eq_false h2]; rfl
 refine P.mul_str h0 (fun h1 h2 h3 => ?_) (fun h1 h2 => ?_) ?_
 · have hn : 0 < n := by omega
   have e1 := Int.mul_ediv_add_emod (2 ^ 63 - 1) n
   have e2 := Int.emod_lt_of_pos (2 ^ 63 - 1) hn
   have hq : (2 ^ 63 - 1 : Int) / n < 1000 := by omega
   have hq0 : 0 ≤ (2 ^ 63 - 1 : Int) / n := Int.ediv_nonneg (by decide) (by omega)
   have h4 : n * ((2 ^ 63 - 1 : Int) / n) ≤ 1000 * ((2 ^ 63 - 1 : Int) / n) := Int.mul_le_mul_of_nonneg_right hc.2.2 hq0
   omega
 · show decide (i.length * n.toNat > sizeLine) = false
   have := pU (a := i.length) (n := n.toNat) hc.1 (by omega)
   rw [Nat.mul_comm]
   exact decide_eq_false (by omega)
 · unfold mX at q
   split
   · rename_i h1
     rw [if_pos h1] at q
     exact ⟨by decide, ⟨.str Str.empty, H, I.tok _, ⟨_, rfl⟩, q⟩⟩
   · rename_i h1
     rw [if_neg h1] at q
     split
     · rename_i h2
       rw [if_pos h2] at q
       exact ⟨.str i, H, I, ⟨_, rfl⟩, q⟩
     · rename_i h2
       rw [if_neg h2] at q
       refine ⟨?_, ⟨.str _, H, I.tok _, ⟨_, rfl⟩, q⟩⟩
       show ((List.replicate n.toNat i.cps).foldl (· ++ ·) #[]).size ≤ sizeLine
       rw [mY]
       have := pU (a := i.length) (n := n.toNat) hc.1 (by omega)
       have e : i.cps.size = i.length := rfl
       rw [e]
       simpa using this
theorem zj : OpR X (binaryOp .Mult) (fun x y H Q => sG x y H Q ∨ rI CMul (fun i j => .int (i * j)) x y H Q) := op_mulS.or tY
theorem uv : GOp X (fun x y H Q => sG x y H Q ∨ rI CMul (fun i j => .int (i * j)) x y H Q) DI := by
 intro dx dy x y H Q rx ry o
 cases dx with
 | str i =>
  cases dy with
  | int n =>
   have o2 : Out X H (if i.length ≤ 1000 ∧ -1000 ≤ n ∧ n ≤ 1000 then some (.ok (.str (mX i n))) else none) Q := o
   by_cases hc : i.length ≤ 1000 ∧ -1000 ≤ n ∧ n ≤ 1000
   · rw [if_pos hc] at o2
     exact .inl ⟨i, n, rx, ry, hc, o2 _ H (.refl H) rfl⟩
   · rw [if_neg hc] at o2
     exact o2.elim
  | _ => exact (show False from o).elim
 | _ => exact .inr (yH _ _ x y H Q rx ry o)
end
end FD
namespace FD
open PySem PySem.Spec PyProof.Rows L2 PySem.W
def xiB (K : PySem.W.Frag) (C : Addr) : Bool := findIn K (.ref C) "__getattribute__" == some (some (.builtin "BaseException.__getattribute__")) && findIn K (.ref C) "__getattr__" == some none && findIn K (.ref C) "__class__" == some (some (.builtin "object.__class__")) &&
 specialIn K (.builtin "object.__class__") "__get__" == some (some (.builtin "getset_descriptor.__get__")) && takesIn K (.builtin "object.__class__") == some true && mroIn K C (.type "object") == some true && mroIn K C (.type "BaseException") == some true
theorem B8 {K : PySem.W.Frag} {C : Addr} (h : xiB K C = true) : XI K C := by
 unfold xiB at h
 simp only [Bool.and_eq_true, beq_iff_eq] at h
 exact ⟨h.1.1.1.1.1.1, h.1.1.1.1.1.2, h.1.1.1.1.2, h.1.1.1.2, h.1.1.2, h.1.2, h.2⟩
structure XAll (K : PySem.W.Frag) (m : Nat) (cls : Nat → Addr) (CJ : Addr) : Prop where
 at_ : ∀ c, c < m → nsIn K mainGlobals (xnm c) = some (some (.ref (cls c))) ∧ excIn K (cls c) bmV "ValueError.__new__" = true ∧ XI K (cls c) ∧ mroIn K (cls c) (.ref CJ) = some true ∧ kitOne K (.ref (cls c)) (.type "ValueError") = some true ∧ ∀ d, d < m → kitOne K (.ref (cls c)) (.ref (cls d)) = some (c == d)
 exJ : excIn K CJ bmV "ValueError.__new__" = true
section
variable {K : PySem.W.Frag} {m : Nat} {cls : Nat → Addr} {CJ : Addr} (x : XAll K m cls CJ)
include x
theorem XAll.xc (c : Nat) (h : c < m) : XC K c (cls c) := ⟨(x.at_ c h).1, (x.at_ c h).2.1⟩
theorem XAll.same {c : Nat} {C : Addr} (h : c < m) (q : nsIn K mainGlobals (xnm c) = some (some (.ref C))) : C = cls c := by
 have z := (x.at_ c h).1
 rw [q] at z
 cases z
 rfl
theorem XAll.xk : ∀ c C, c < m → nsIn K mainGlobals (xnm c) = some (some (.ref C)) → excIn K C bmV "ValueError.__new__" = true ∧ mroIn K C (.ref CJ) = some true := fun c C h q => by
 rw [x.same h q]
 exact ⟨(x.at_ c h).2.1, (x.at_ c h).2.2.2.1⟩
theorem XAll.xtO (d : Nat) (hd : d < m) : XT K (fun c => if c < m then some (c == d) else none) (.ref (cls d)) := fun c b hb C q => by
 dsimp only at hb
 split at hb
 · rename_i h
   cases hb
   rw [x.same h q]
   exact ⟨(x.at_ c h).2.2.1, (x.at_ c h).2.2.2.2.2 d hd⟩
 · cases hb
theorem XAll.xtV : XT K (fun c => if c < m then some true else none) (.type "ValueError") := fun c b hb C q => by
 dsimp only at hb
 split at hb
 · rename_i h
   cases hb
   rw [x.same h q]
   exact ⟨(x.at_ c h).2.2.1, (x.at_ c h).2.2.2.2.1⟩
 · cases hb
end
end FD
namespace FD
open PySem
theorem jB : bootBuiltins (Str.ofString "ValueError") = some (.type "ValueError") := by kernel_rfl
end FD
namespace FD
open PySem PySem.Spec PyProof.Rows L2
section
variable {X : Cx}
end
section
variable {X : Cx}
def cC (x y : Dv) : Option (Rs Dv) := match x, y with
 | .tup a, .tup b => if a.length + b.length ≤ 100000 then some (.ok (.tup (a ++ b))) else none
 | x, y => cY x y
theorem sH {prog : Program} {w : World} {A : Around} {E : Value → Shared → Prop} {s : Shared} {t b : Addr} {ws : List Value} {Q : Value → Shared → Prop} (ht : IsTup s.heap t #[]) (hb : IsTup s.heap b ws.toArray) (h0 : Q (.ref b) s) :
 wpAny (model prog w) A (binaryOp .Add (.ref t) (.ref b)) Q E s := by
 obtain ⟨⟨cls, dd, data, sl⟩, ho, hc, n, hd⟩ := id ht
 obtain ⟨⟨cls2, dd2, data2, sl2⟩, ho2, hc2, n2, hd2⟩ := id hb
 simp only at hc hd hc2 hd2
 subst hc hd hc2 hd2
 exact concat_meets ⟨_, ho, rfl⟩ ⟨_, ho2, rfl⟩ noFill_tuple_add seq_tuple_add PySem.F.slot_tuple_add PySem.F.entry_tuple_add (PySem.F.args_tuple_add_2 _ _)
  (tuple_addW0 t b #[] ws.toArray n n2 dd dd2 sl sl2 (by simp)) ⟨ho, ho2, h0⟩
def uw (K : PySem.W.Frag) : R2 := fun x y H Q => ∃ a b ys, x = .ref a ∧ y = .ref b ∧ SqT K H a [] ∧ SqT K H b ys ∧ Q (.ref b) H
theorem sI : OpR X (binaryOp .Add) (uw X.K) := by
 intro pins s σ H x y v u Q I rx ry h
 obtain ⟨a, b, ys, rfl, rfl, ha, hb, q⟩ := h
 cases rx
 cases ry
 obtain ⟨its, r1, p1, _⟩ := I.tuple ha
 obtain ⟨its2, r2, p2, _⟩ := I.tuple hb
 cases r1
 exact sH p1 p2 ⟨.ref b, H, I, rfl, q⟩
def zk (X : Cx) : R2 := fun x y H Q => vm x y H Q ∨ (yc X.K x y H Q ∨ uw X.K x y H Q)
theorem zl : OpR X (binaryOp .Add) (zk X) := o_add.or (op_catT.or sI)
theorem pV {x y : Dv} (h : ∀ a b, ¬ (x = .tup a ∧ y = .tup b)) : cC x y = cY x y := by
 unfold cC
 split
 · rename_i a b
   exact absurd ⟨rfl, rfl⟩ (h a b)
 · rfl
theorem zm : GOp X (zk X) cC := by
 intro dx dy x y H Q rx ry o
 by_cases hc : ∃ a b, dx = .tup a ∧ dy = .tup b
 · obtain ⟨a, b, rfl, rfl⟩ := hc
   have o' : Out X H (if a.length + b.length ≤ 100000 then some (.ok (.tup (a ++ b))) else none) Q := o
   split at o'
   · rename_i hl
     obtain ⟨p, xs, rfl, h1, q1⟩ := rx.tupE
     obtain ⟨p2, ys, rfl, h2, q2⟩ := ry.tupE
     cases xs with
     | nil =>
      have ha : a = [] := by
       have := q1.length
       exact List.length_eq_zero_iff.mp this.symm
      subst ha
      exact .inr (.inr ⟨p, p2, ys, rfl, rfl, SqT.of h1, SqT.of h2, o' _ H (.refl H) ⟨p2, ys, rfl, h2, by simpa using q2⟩⟩)
     | cons x0 xs =>
      refine .inr (.inl ⟨p, p2, x0 :: xs, ys, rfl, rfl, SqT.of h1, SqT.of h2, by simp, by rw [q1.length, q2.length]; exact bO hl, fun hy => ?_, fun hy l hl => o' _ _ (aF hl _) ⟨l, _, rfl, av, Reps.mono (aF hl _) _ _ (q1.append q2)⟩⟩)
      subst hy
      have hb : b = [] := List.length_eq_zero_iff.mp q2.length.symm
      subst hb
      exact o' _ H (.refl H) ⟨p, _, rfl, h1, by simpa using q1⟩
   · exact o'.elim
 · rw [pV (fun a b h => hc ⟨a, b, h⟩)] at o
   exact .inl (yG dx dy x y H Q rx ry o)
theorem Reps.reverse {K : PySem.W.Frag} {H : Hp} : ∀ {ds : List Dv} {vs : List V}, Reps K H ds vs → Reps K H ds.reverse vs.reverse
 | [], vs, r => by cases (show vs = [] from r); exact r
 | d :: ds, vs, r => by
  obtain ⟨v, us, rfl, r1, r2⟩ : ∃ v us, vs = v :: us ∧ Rep K H d v ∧ Reps K H ds us := r
  rw [List.reverse_cons, List.reverse_cons]
  exact (Reps.reverse r2).append ⟨v, [], rfl, r1, rfl⟩
theorem Vals.reverse : ∀ {xs : List V} {us : List Value}, Vals xs us → Vals xs.reverse us.reverse
 | _, _, .nil => .nil
 | x :: xs, u :: us, .cons r t => by
  rw [List.reverse_cons, List.reverse_cons]
  exact (Vals.reverse t).append (.cons r .nil)
def Ba : Str → List Dv → Option (Rs Dv)
 | x, [.str y] => match Builtin.Str.occurrences x y 0 x.length 1 with
  | i :: _ => some (.ok (.int i))
  | [] => none
 | _, _ => none
def DJ : V → List V → Hp → VK → Prop := fun x xs H Q => ∃ i j k l, x = .str i ∧ xs = [.str j] ∧ Builtin.Str.occurrences i j 0 i.length 1 = k :: l ∧ Q (.int (k : Nat)) H
theorem zn : MtR X "str.index" DJ := by
 intro pins s σ H x xs v us Q I rx rs h
 obtain ⟨i, j, k, l, rfl, rfl, ho, q⟩ := h
 obtain ⟨t, rfl⟩ := rx
 obtain ⟨u, rfl, ru⟩ := dQ rs
 obtain ⟨t', rfl⟩ := ru
 exact SC.index ho ⟨.int _, H, I.tok _, ⟨_, rfl⟩, q⟩
theorem B9 (i : Str) (ds : List Dv) (vs : List V) (H : Hp) (Q : VK) (rs : Reps X.K H ds vs) (o : Out X H (Ba i ds) Q) : DJ (.str i) vs H Q := by
 unfold Ba at o
 split at o
 · rename_i j
   obtain ⟨w, rfl, rw'⟩ := da rs
   cases (show w = .str j from rw')
   match hk : Builtin.Str.occurrences i j 0 i.length 1 with
   | [] => rw [hk] at o; exact o.elim
   | k :: l => rw [hk] at o; exact ⟨i, j, k, l, rfl, rfl, hk, o _ H (.refl H) rfl⟩
 · exact o.elim
end
abbrev zo (its : List Value) (n : Nat) : Obj := { cls := .type "list", data := .seq its.toArray n }
section
variable {X : Cx} {pins : List (Addr × Obj)} {σ : L2.St} {H : Hp} {s : Shared} {a : Addr} {xs : List V}
theorem Inv.untrack (I : Inv X pins σ (upd H a (.lst xs)) s) (ha : H a = none) (hex : X.ex = []) : ∃ its n, Vals xs its ∧ xs.length ≤ sizeLine ∧ (∀ o, X.s₀.heap.get? a = some o → X.H₀ a ≠ none) ∧ (∀ p ∈ X.pn ++ pins, p.1 ≠ a) ∧ Inv X (pins ++ [(a, zo its n)]) σ H s := by
 obtain ⟨z, its, n, rv, hl, e⟩ := I.lstM (l := a) (xs := xs) av
 have hb : ∀ b u, H b = some u → b ≠ a := fun b u q => aB q ha
 have low : ∀ b, upd H a (.lst xs) b = none → H b = none := fun b q => by
  by_cases hba : b = a
  · rw [hba]; exact ha
  · rw [az hba] at q; exact q
 have dn : ∀ b u, upd H a (.lst xs) b = some u → (∀ ys, u ≠ .lst ys) → H b = some u := fun b u q hu => by
  by_cases hba : b = a
  · rw [hba, av] at q
    exact absurd (Option.some.inj q).symm (hu xs)
  · rw [az hba] at q; exact q
 have nfs : a ∉ X.fs := fun hm => by
  obtain ⟨_, o, ho, _⟩ := I.ok.funs.mem hm
  have := I.base.free a o ho (I.ok.frf a hm) (by rw [hex]; simp)
  rw [av] at this
  cases this
 have npin : ∀ p ∈ X.pn ++ pins, p.1 ≠ a := fun p hp w => by
  have := (I.pin p hp).2.1
  rw [w, av] at this
  cases this
 refine ⟨its, n, rv, z, fun o ho h0 => ?_, npin, ⟨I.ok, I.os, I.bare, ⟨I.base.keep, I.base.slot, fun b o q n hx => low b (I.base.free b o q n hx), I.base.there, fun b ys q => dn b _ (I.base.tups b ys q) (fun _ w => by cases w), fun b o u q => dn b _ (I.base.frzs b o u q) (fun _ w => by cases w), fun b ps q => ?_⟩, I.loc, I.cell, low _ I.free, fun x c q => low _ (I.freeC x c q), fun p hp => ?_, fun b u q => ?_, I.len⟩⟩
 · have := I.base.free a o ho h0 (by rw [hex]; simp)
   rw [av] at this
   cases this
 · obtain ⟨more, q'⟩ := I.base.tbls b ps q
   exact ⟨more, dn b _ q' (fun _ w => by cases w)⟩
 · rcases List.mem_append.mp hp with h1 | h1
   · obtain ⟨q1, q2, q3⟩ := I.pin p (List.mem_append_left _ h1)
     exact ⟨q1, low _ q2, q3⟩
   · rcases List.mem_append.mp h1 with h1 | h1
     · obtain ⟨q1, q2, q3⟩ := I.pin p (List.mem_append_right _ h1)
       exact ⟨q1, low _ q2, q3⟩
     · simp only [List.mem_singleton] at h1
       subst h1
       refine ⟨e, ha, fun w => ?_, nfs, fun v w => by cases w⟩
       obtain ⟨m, ⟨o, es, ep, ho, hd, _⟩, _⟩ := I.loc
       have w' : a = X.env.locals := w
       rw [← w', e] at ho
       cases ho
       cases hd
 · have hq : upd H a (.lst xs) b = some u := by rw [az (hb b u q)]; exact q
   refine (I.hok b u hq).stay (fun _ _ _ w => w) (fun c w => dn c _ w (fun _ w => by cases w)) fun c ys w => dn c _ w (fun _ w => by cases w)
theorem Inv.retrack {its : List Value} {n : Nat} (I : Inv X (pins ++ [(a, zo its n)]) σ H s) (rv : Vals xs its) (hz : xs.length ≤ sizeLine) (h0 : ∀ o, X.s₀.heap.get? a = some o → X.H₀ a ≠ none) (hp0 : ∀ p ∈ X.pn ++ pins, p.1 ≠ a) : H a = none ∧ Inv X pins σ (upd H a (.lst xs)) s := by
 obtain ⟨e, ha, nL, nf, nc⟩ := I.pin (a, zo its n) (List.mem_append_right _ (List.mem_append_right _ (by simp)))
 have up : ∀ b u, H b = some u → upd H a (.lst xs) b = some u := fun b u q => by rw [az (aB q ha)]; exact q
 have lo : ∀ b, H b = none → b ≠ a → upd H a (.lst xs) b = none := fun b q h => by rw [az h]; exact q
 refine ⟨ha, ⟨I.ok, I.os, I.bare, ⟨I.base.keep, I.base.slot, fun b o q n hx => lo b (I.base.free b o q n hx) (fun w => h0 o (w ▸ q) (w ▸ n)), I.base.there, fun b ys q => up b _ (I.base.tups b ys q), fun b o u q => up b _ (I.base.frzs b o u q), fun b ps q => ?_⟩, I.loc, I.cell, lo _ I.free (Ne.symm nL), fun x c q => lo _ (I.freeC x c q) (fun w => ?_), fun p hp => ?_, fun b u q => ?_, I.len⟩⟩
 · obtain ⟨more, q'⟩ := I.base.tbls b ps q
   exact ⟨more, up b _ q'⟩
 · obtain ⟨v, o, ho, hd⟩ := I.cell x c q
   rw [w] at ho
   have e' : s.heap.get? a = some (zo its n) := e
   rw [e'] at ho
   cases ho
   cases hd
 · obtain ⟨q1, q2, q3⟩ := I.pin p (by
    rcases List.mem_append.mp hp with h1 | h1
    · exact List.mem_append_left _ h1
    · exact List.mem_append_right _ (List.mem_append_left _ h1))
   exact ⟨q1, lo _ q2 (hp0 p hp), q3⟩
 · by_cases hb : b = a
   · subst hb
     rw [av] at q
     cases q
     exact ⟨hz, its, n, rv, e⟩
   · rw [az hb] at q
     exact (I.hok b u q).stay (fun _ _ _ w => w) (fun c w => up c _ w) fun c ys w => up c _ w
end
def Ca (t : TE) : TE := fun σ Hf Q => ∃ H a xs, Hf = upd H a (.lst xs) ∧ H a = none ∧ t σ H fun v H' => H' a = none → Q v (upd H' a (.lst xs))
def Cb (t : TA) : TA := fun σ Hf Q => ∃ H a xs, Hf = upd H a (.lst xs) ∧ H a = none ∧ t σ H fun v H' => H' a = none → Q v (upd H' a (.lst xs))
def Cc (t : TI) : TI := fun σ Hf Q => ∃ H a xs, Hf = upd H a (.lst xs) ∧ H a = none ∧ t σ H fun v H' => H' a = none → Q v (upd H' a (.lst xs))
section
variable {X : Cx} {e : Expr} {es : List Expr}
theorem vO (hex : X.ex = []) {t : TE} (h : PE X e t) : PE X e (Ca t) := by
 intro pins s σ Hf Q I ⟨H, a, xs, e1, ha, q⟩
 subst e1
 obtain ⟨its, n, rv, hz, h0, hp, I'⟩ := Inv.untrack I ha hex
 refine thn (h _ s σ H _ I' q) fun u s' ⟨v, H', I2, r, q2⟩ => ?_
 obtain ⟨ha', I3⟩ := Inv.retrack I2 rv hz h0 hp
 exact ⟨v, _, I3, r, q2 ha'⟩
theorem vP (hex : X.ex = []) {t : TA} (h : PA X es t) : PA X es (Cb t) := by
 intro pos pins s σ Hf Q I ⟨H, a, xs, e1, ha, q⟩
 subst e1
 obtain ⟨its, n, rv, hz, h0, hp, I'⟩ := Inv.untrack I ha hex
 refine thn (h pos _ s σ H _ I' q) fun u s' ⟨v, H', I2, r, q2⟩ => ?_
 obtain ⟨ha', I3⟩ := Inv.retrack I2 rv hz h0 hp
 exact ⟨v, _, I3, r, q2 ha'⟩
theorem vQ (hex : X.ex = []) {tg : Expr} {t : TI} (h : PI X tg e t) : PI X tg e (Cc t) := by
 intro pins s σ Hf R I ⟨H, a, xs, e1, ha, q⟩
 subst e1
 obtain ⟨its, n, rv, hz, h0, hp, I'⟩ := Inv.untrack I ha hex
 refine thn (h _ s σ H _ I' q) fun u s1 hs1 => thn hs1 fun itv s2 ⟨it, fp, tn, J, H', e2, I2, T, t0, fpo, q2⟩ => ?_
 obtain ⟨ha', I3⟩ := Inv.retrack I2 rv hz h0 hp
 refine ⟨it, fp, tn, J, _, e2, I3, T, t0, fun b hb => ?_, q2 ha'⟩
 obtain ⟨g0, g1, g2, g3, g4, g5⟩ := fpo b hb
 have hba : b ≠ a := fun w => g5 (a, zo its n) (List.mem_append_right _ (List.mem_append_right _ (by simp))) w.symm
 refine ⟨by rw [az hba]; exact g0, g1, g2, g3, g4, fun p hp' => g5 p ?_⟩
 rcases List.mem_append.mp hp' with w | w
 · exact List.mem_append_left _ w
 · exact List.mem_append_right _ (List.mem_append_left _ w)
end
mutual
def imm : Dv → Bool
 | .non => true
 | .bl _ => true
 | .int _ => true
 | .str _ => true
 | .tup ds => imms ds
 | .lst _ => false
 | .scr _ => false
 | .exn _ => false
def imms : List Dv → Bool
 | [] => true
 | d :: ds => imm d && imms ds
end
section
variable {K : PySem.W.Frag} {H H' : Hp}
mutual
theorem Rep.tups (k : ∀ b ys, H b = some (.tup ys) → H' b = some (.tup ys)) : ∀ (d : Dv) (v : V), imm d = true → Rep K H d v → Rep K H' d v
 | .non, _, _, h => h
 | .bl _, _, _, h => h
 | .int _, _, _, h => h
 | .str _, _, _, h => h
 | .tup ds, v, i, h => by
  obtain ⟨a, xs, r, h, q⟩ := h.tupE
  exact ⟨a, xs, r, k _ _ h, Reps.tups k ds xs (by simpa [imm] using i) q⟩
 | .lst _, _, i, _ => by simp [imm] at i
 | .scr _, _, i, _ => by simp [imm] at i
 | .exn _, _, i, _ => by simp [imm] at i
theorem Reps.tups (k : ∀ b ys, H b = some (.tup ys) → H' b = some (.tup ys)) : ∀ (ds : List Dv) (vs : List V), imms ds = true → Reps K H ds vs → Reps K H' ds vs
 | [], _, _, h => h
 | d :: ds, vs, i, h => by
  obtain ⟨v, us, r, h, q⟩ : ∃ v us, vs = v :: us ∧ Rep K H d v ∧ Reps K H ds us := h
  have i' : imm d = true ∧ imms ds = true := by simpa [imms] using i
  exact ⟨v, us, r, Rep.tups k d v i'.1 h, Reps.tups k ds us i'.2 q⟩
end
end
inductive Fo where
 | nx (ρ : Ev) (ds : List Dv)
 | rt (d : Dv)
abbrev gX := Ev → List Dv → Option Fo
def OutW (X : Cx) (i : Nat) (a : Addr) (H : Hp) (o : Option Fo) (D : oG) : Prop := match o with
 | none => False
 | some (.rt d) => ∀ v H', Same H H' → Rep X.K H' d v → D.rt v H'
 | some (.nx ρ ds) => ∀ σ H' xs, Same H H' → H' a = none → σ[i]? = some (some (.ref a)) → Envs X.K H' σ ρ → Reps X.K H' ds xs → D.nx σ (upd H' a (.lst xs))
theorem OutW.mono {X : Cx} {i : Nat} {a : Addr} {H H' : Hp} {D : oG} (e : Same H H') : ∀ {o : Option Fo}, OutW X i a H o D → OutW X i a H' o D
 | none, h => h
 | some (.rt _), h => fun v H1 e1 r => h v H1 (e.trans e1) r
 | some (.nx _ _), h => fun σ H1 xs e1 => h σ H1 xs (e.trans e1)
def tO (X : Cx) (i : Nat) (f : gX) : TS := fun D σ Hf => ∃ H a xs ρ ds, Hf = upd H a (.lst xs) ∧ H a = none ∧ σ[i]? = some (some (.ref a)) ∧ Envs X.K H σ ρ ∧ Reps X.K H ds xs ∧ OutW X i a H (f ρ ds) D
structure FO1 (X : Cx) (i : Nat) (st : Stmt) (f : gX) : Prop where
 h : PS X st (tO X i f)
structure FOs (X : Cx) (i : Nat) (st : List Stmt) (f : gX) : Prop where
 h : PSs X st (tO X i f)
def xx {α : Type} (o : Option (Rs α)) (k : α → Option Fo) : Option Fo := match o with
 | some (.ok a) => k a
 | _ => none
def Bb : gX := fun ρ ds => some (.nx ρ ds)
def eU (f g : gX) : gX := fun ρ ds => match f ρ ds with
 | some (.nx ρ' ds') => g ρ' ds'
 | o => o
def fP (j : Nat) (f : FnE) : gX := fun ρ ds => xx (f ρ) fun d => some (.nx (ρ.set j (some d)) ds)
def vR (i : Nat) (c : FnB) (f g : gX) : gX := fun ρ ds => xx (c (ρ.set i (some (.lst ds)))) fun k => if k then f ρ ds else g ρ ds
def xz (i : Nat) (f : FnE) : gX := fun ρ ds => xx (f (ρ.set i (some (.lst ds)))) fun d => some (.rt d)
def ux (f : FnE) : gX := fun ρ ds => if ds.length < 100000 then xx (f ρ) fun d => some (.nx ρ (ds ++ [d])) else none
section
variable {X : Cx} {i : Nat} {st : Stmt} {sts : List Stmt} {f g : gX} {fe : FnE} {gb : FnB} {e c : Expr} {pos : Pos}
theorem pW {H Hf : Hp} {a : Addr} {xs : List V} (ha : H a = none) (e : Same (upd H a (.lst xs)) Hf) : ∃ H', Hf = upd H' a (.lst xs) ∧ H' a = none ∧ Same H H' := by
 refine ⟨fun b => if b = a then none else Hf b, ?_, by simp, fun b u q => ?_⟩
 · funext b
   by_cases hb : b = a
   · subst hb
     rw [av]
     exact e b _ av
   · rw [az hb]
     simp [hb]
 · have hb : b ≠ a := aB q ha
   simp only [hb, if_false]
   exact e b u (by rw [az hb]; exact q)
theorem dk {H : Hp} {a : Addr} {xs : List V} (ha : H a = none) : Same H (upd H a (.lst xs)) := aF ha _
theorem fQ {H : Hp} {a : Addr} {xs : List V} {σ : L2.St} {ρ : Ev} {ds : List Dv} (ha : H a = none) (hi : σ[i]? = some (some (.ref a))) (E : Envs X.K H σ ρ) (r : Reps X.K H ds xs) : Envs X.K (upd H a (.lst xs)) σ (ρ.set i (some (.lst ds))) := by
 have E' := E.mono (dk (xs := xs) ha)
 refine ⟨by rw [List.length_set]; exact E'.len, fun j d hj => ?_⟩
 by_cases hij : i = j
 · subst hij
   by_cases hl : i < ρ.length
   · rw [List.getElem?_set_self hl] at hj
     cases hj
     exact ⟨.ref a, hi, a, xs, rfl, av, Reps.mono (dk ha) _ _ r⟩
   · rw [List.getElem?_eq_none (by rw [List.length_set]; omega)] at hj
     cases hj
 · rw [List.getElem?_set_ne hij] at hj
   exact E'.at' j d hj
theorem vS : FOs X i [] Bb := ⟨fun pins s σ Hf D I ⟨H, a, xs, ρ, ds, e1, ha, hi, E, r, o⟩ => by
 subst e1
 exact oN pins s σ _ D I (o σ H xs (.refl H) ha hi E r)⟩
theorem sJ (h1 : FO1 X i st f) (h2 : FOs X i sts g) : FOs X i (st :: sts) (eU f g) := ⟨fun pins s σ Hf D I ⟨H, a, xs, ρ, ds, e1, ha, hi, E, r, o⟩ => by
 refine jo h1.h h2.h pins s σ Hf D I ⟨H, a, xs, ρ, ds, e1, ha, hi, E, r, ?_⟩
 unfold eU at o
 match hf : f ρ ds with
 | none => rw [hf] at o; exact o.elim
 | some (.rt d) => rw [hf] at o; exact o
 | some (.nx ρ' ds') => rw [hf] at o; exact fun σ' H' xs' e' ha' hi' E' r' => ⟨H', a, xs', ρ', ds', rfl, ha', hi', E', r', OutW.mono e' o⟩⟩
theorem vT (h1 : FO1 X i st f) : FOs X i [st] f := ⟨oO h1.h⟩
theorem zp (hex : X.ex = []) (j : Nat) (hij : i ≠ j) {x : Str} {pos' : Pos} (hN : X.N.Nodup) (hi : X.N[j]? = some x) (hx : Loc X.env.scope x) (he : FE X e fe) (hs : swapsWith e (some (.Name x pos')) pos.line X.env = pure false := by kernel_rfl) (hf : X.fn x = true ∨ X.env.scope.names.lookup x = some .local := by first | exact .inl rfl | exact .inr rfl | assumption) :
 FO1 X i (.Assign [.Name x pos'] e pos) (fP j fe) := ⟨fun pins s σ Hf D I ⟨H, a, xs, ρ, ds, e1, ha, hia, E, r, o⟩ => by
 refine oQ hN hi hx (vO hex he.h) hs hf pins s σ Hf D I ⟨H, a, xs, e1, ha, ρ, E, ?_⟩
 unfold fP at o
 match hfe : fe ρ with
 | none => rw [hfe] at o; exact o.elim
 | some (.exc _) => rw [hfe] at o; exact o.elim
 | some (.ok d) =>
  rw [hfe] at o
  exact fun v H' e' rd ha' => o _ H' xs e' ha' (by rw [List.getElem?_set_ne (Ne.symm hij)]; exact hia) ((E.mono e').set rd) (Reps.mono e' _ _ r)⟩
theorem zq {as bs : List Stmt} (hc : FT X c gb) (ha : FOs X i as f) (hb : FOs X i bs g) : FO1 X i (.If c as bs pos) (vR i gb f g) := ⟨fun pins s σ Hf D I ⟨H, a, xs, ρ, ds, e1, ha', hia, E, r, o⟩ => by
 subst e1
 refine xV hc.h ha.h hb.h pins s σ _ D I ⟨_, fQ ha' hia E r, ?_⟩
 unfold vR at o
 match hg : gb (ρ.set i (some (.lst ds))) with
 | none => rw [hg] at o; exact o.elim
 | some (.exc _) => rw [hg] at o; exact o.elim
 | some (.ok true) =>
  rw [hg] at o
  intro H2 e2
  obtain ⟨H', q1, q2, q3⟩ := pW ha' e2
  exact uc ⟨H', a, xs, ρ, ds, q1, q2, hia, E.mono q3, Reps.mono q3 _ _ r, OutW.mono q3 o⟩
 | some (.ok false) =>
  rw [hg] at o
  intro H2 e2
  obtain ⟨H', q1, q2, q3⟩ := pW ha' e2
  exact ub ⟨H', a, xs, ρ, ds, q1, q2, hia, E.mono q3, Reps.mono q3 _ _ r, OutW.mono q3 o⟩⟩
theorem zr (he : FE X e fe) : FO1 X i (.Return (some e) pos) (xz i fe) := ⟨fun pins s σ Hf D I ⟨H, a, xs, ρ, ds, e1, ha', hia, E, r, o⟩ => by
 subst e1
 refine tV he.h pins s σ _ D I ⟨_, fQ ha' hia E r, ?_⟩
 unfold xz at o
 match hg : fe (ρ.set i (some (.lst ds))) with
 | none => rw [hg] at o; exact o.elim
 | some (.exc _) => rw [hg] at o; exact o.elim
 | some (.ok d) => rw [hg] at o; exact fun v H2 e2 rd => o v H2 ((dk ha').trans e2) rd⟩
theorem zt (hex : X.ex = []) {x : Str} {apos cpos : Pos} (hx : PE X (.Name x apos) (xK i)) (he : FE X e fe)
 (hbase : attributeBase (.Name x apos) "append" X.env (eval (.Name x apos) X.env) = eval (.Name x apos) X.env := by kernel_rfl)
 (hfew : ((backTo cpos (starEach [e] X.env)).all (fun x => !x.1) && (backToKw cpos (keywordEach [] X.env)).all (fun x => x.1.isSome)
   && decide ([e].length + ([] : List Keyword).length + (if ([] : List Keyword).isEmpty then 0 else 1) < 30)) = true := by kernel_rfl)
 {ap : Pos} (hline : (ap.endLine == cpos.line) = true := by kernel_rfl) (hs : starEach [e] X.env = (false, eval e X.env) :: starEach [] X.env := by kernel_rfl) (hplain : (backTo cpos (starEach [] X.env)).any (·.1) = false := by kernel_rfl)
 (hsw : swapsWith (.Call (.Attribute (.Name x apos) "append" ap) [e] [] cpos) none pos.line X.env = pure false := by kernel_rfl) :
 FO1 X i (.Expr (.Call (.Attribute (.Name x apos) "append" ap) [e] [] cpos) pos) (ux fe) := ⟨fun pins s σ Hf D I ⟨H, a, xs, ρ, ds, e1, ha', hia, E, r, o⟩ => by
 refine oP (rV PySem.F.plainAttrs_list PySem.F.slot_list_append PySem.F.type_list_append pf hx (vP hex (lC he pq hs).h) hbase hfew hline hs hplain) hsw pins s σ Hf D I ?_
 unfold ux at o
 split at o
 · rename_i hl
   match hfe : fe ρ with
   | none => rw [hfe] at o; exact o.elim
   | some (.exc _) => rw [hfe] at o; exact o.elim
   | some (.ok d) =>
    rw [hfe] at o
    refine ⟨.ref a, hia, .inl ⟨rfl, xs, SqL.of (by rw [e1]; exact av)⟩, H, a, xs, e1, ha', ρ, E, ?_⟩
    show OutA X H (aa fe ae ρ) _
    rw [ai hfe aC]
    intro vs H' e' rs ha2
    obtain ⟨v, rfl, rv⟩ := da rs
    have hz : xs.length < sizeLine := by
     have := r.length
     have h2 := bO (n := xs.length + 1) (by omega)
     omega
    refine ⟨a, xs, v, rfl, rfl, av, hz, ?_⟩
    rw [uP]
    exact o σ H' (xs ++ [v]) e' ha2 hia (E.mono e') ((Reps.mono e' _ _ r).append ⟨v, [], rfl, rv, rfl⟩)
 · exact o.elim⟩
end
def vU (i : Nat) (g : FnA) (f : gX) : FnS := fun ρ => bI (g ρ) fun ds => if ds.length ≤ 100000 then (match f (ρ.set i none) ds with
 | some (.nx ρ' ds') => some (.nx (ρ'.set i (some (.lst ds'))))
 | some (.rt d) => some (.rt d)
 | none => none) else none
section
variable {X : Cx} {i : Nat} {sts : List Stmt} {f : gX} {g : FnA} {es : List Expr} {pos lp : Pos}
theorem vV {x : Str} {pos' : Pos} (hN : X.N.Nodup) (hi : X.N[i]? = some x) (hx : Loc X.env.scope x) (hg : FA X es g) (hr : FOs X i sts f) (hs : swapsWith (.List es lp) (some (.Name x pos')) pos.line X.env = pure false := by kernel_rfl)
 (hf : X.fn x = true ∨ X.env.scope.names.lookup x = some .local := by first | exact .inl rfl | exact .inr rfl | assumption) : FSs X (.Assign [.Name x pos'] (.List es lp) pos :: sts) (vU i g f) := ⟨fun pins s σ H D I ⟨ρ, E, o⟩ => by
 refine jo (oQ (i := i) hN hi hx (ua hg.h) hs hf) hr.h pins s σ H D I ⟨ρ, E, ?_⟩
 unfold vU at o
 match hgr : g ρ with
 | none => rw [hgr] at o; exact o.elim
 | some (.exc _) => rw [hgr] at o; exact o
 | some (.ok ds) =>
  rw [hgr] at o
  intro vs H1 e1 rs
  have o2 : OutS X H (if ds.length ≤ 100000 then (match f (ρ.set i none) ds with
   | some (.nx ρ' ds') => some (.nx (ρ'.set i (some (.lst ds'))))
   | some (.rt d) => some (.rt d)
   | none => none) else none) D := o
  by_cases hl : ds.length ≤ 100000
  · rw [if_pos hl] at o2
    refine ⟨by rw [rs.length]; exact bO hl, fun p hp => ?_⟩
    have hil : i < σ.length := by rw [I.len]; exact (List.getElem?_eq_some_iff.mp hi).1
    refine ⟨H1, p, vs, ρ.set i none, ds, rfl, hp, List.getElem?_set_self hil, ?_, rs, ?_⟩
    · have E1 := (E.mono e1).fgt1 i
      refine ⟨by rw [List.length_set]; exact E1.len, fun j d hj => ?_⟩
      by_cases hij : i = j
      · subst hij
        by_cases hl2 : i < ρ.length
        · rw [List.getElem?_set_self hl2] at hj; cases hj
        · rw [List.getElem?_eq_none (by rw [List.length_set]; omega)] at hj; cases hj
      · obtain ⟨v, q1, q2⟩ := E1.at' j d hj
        exact ⟨v, by rw [List.getElem?_set_ne hij]; exact q1, q2⟩
    · match hfr : f (ρ.set i none) ds with
      | none => rw [hfr] at o2; exact o2.elim
      | some (.rt d) => rw [hfr] at o2; exact fun v H' e' r' => o2 v H' (e1.trans e') r'
      | some (.nx ρ' ds') =>
       rw [hfr] at o2
       exact fun σ' H' xs' e' ha' hi' E' r' => o2 σ' _ ((e1.trans e').trans (dk ha')) (fQ ha' hi' E' r')
  · rw [if_neg hl] at o2
    exact o2.elim⟩
end
def il (j : Nat) (js : List Nat) (body : gX) : List Dv → Ev → List Dv → Option Fo
 | [], ρ, xs => some (.nx (fgt js ρ) xs)
 | d :: ds, ρ, xs => match body ((fgt js ρ).set j (some d)) xs with
  | some (.nx ρ' xs') => il j js body ds ρ' xs'
  | o => o
def pX (j : Nat) (js : List Nat) (src : FnA) (body : gX) : gX := fun ρ xs => xx (src ρ) fun ds => if imms ds = true then il j js body ds ρ xs else none
theorem mZ : ∀ {ds : List Dv} {n : Nat} {d : Dv}, imms ds = true → ds[n]? = some d → imm d = true
 | [], _, _, _, h => by simp at h
 | e :: ds, 0, d, i, h => by
  have i' : imm e = true ∧ imms ds = true := by simpa [imms] using i
  cases (show some e = some d from h)
  exact i'.1
 | e :: ds, n + 1, d, i, h => by
  have i' : imm e = true ∧ imms ds = true := by simpa [imms] using i
  exact mZ i'.2 (show ds[n]? = some d from h)
theorem sK {K : PySem.W.Frag} {H : Hp} {a : Addr} {xs : List V} {d : Dv} {v : V} (i : imm d = true) (r : Rep K (upd H a (.lst xs)) d v) : Rep K H d v :=
 Rep.tups (fun b ys q => by
  by_cases hb : b = a
  · rw [hb, av] at q; cases q
  · rw [az hb] at q; exact q) d v i r
theorem zu {X : Cx} {i : Nat} {tg iter : Expr} {body : List Stmt} {pos : Pos} {src : FnA} {fb : gX} (hex : X.ex = []) (j : Nat) (js : List Nat) (hij : i ≠ j) (hp : PassesOwn (model X.prog X.w) X.A X.env X.xe) (hc : X.calm = true) (hi : FI X tg iter src) (hg : PG X tg (lv j)) (hb : FOs X i body fb)
 (hs : ∀ x, foldedSetIterable iter X.env x = pure x := by intro _; kernel_rfl) : FO1 X i (.For tg iter body [] pos) (pX j js src fb) := ⟨fun pins s σ Hf D I ⟨H, a, xs, ρ, ds, e1, ha, hia, E, r, o⟩ => by
 refine tX hp hc (vQ hex hi.h) hg hb.h hs pins s σ Hf D I ⟨H, a, xs, e1, ha, ρ, E, ?_⟩
 unfold pX at o
 match hf : src ρ with
 | none => rw [hf] at o; exact o.elim
 | some (.exc _) => rw [hf] at o; exact o.elim
 | some (.ok us) =>
  rw [hf] at o
  have o0 : OutW X i a H (if imms us = true then il j js fb us ρ ds else none) D := o
  by_cases him : imms us = true
  · rw [if_pos him] at o0
    intro J H1 e1 wk ha1
    have o1 := OutW.mono e1 o0
    refine ⟨fun n m σ' Hf' => m = us.length - n ∧ n ≤ us.length ∧ ∃ H' xs' ρ' ds', Hf' = upd H' a (.lst xs') ∧ H' a = none ∧ Same H1 H' ∧ σ'[i]? = some (some (.ref a)) ∧ Envs X.K H' σ' ρ' ∧ Reps X.K H' ds' xs' ∧ OutW X i a H' (il j js fb (us.drop n) ρ' ds') D,
     ⟨us.length, by simp, Nat.zero_le _, H1, xs, ρ, ds, rfl, ha1, .refl H1, hia, E.mono e1, Reps.mono e1 _ _ r, by simpa using o1⟩, ?_⟩
    rintro n m σ' Hf' ⟨rfl, hn, H', xs', ρ', ds', rfl, ha', e2, hia', E', r', o'⟩
    have e2f : Same H1 (upd H' a (.lst xs')) := e2.trans (dk ha')
    by_cases hlt : n < us.length
    · refine .inr ⟨wk.go n _ e2f hlt, fun σ2 Hf2 => ∃ H2 xs2 ρ2 ds2, Hf2 = upd H2 a (.lst xs2) ∧ H2 a = none ∧ Same H1 H2 ∧ σ2[i]? = some (some (.ref a)) ∧ Envs X.K H2 σ2 ρ2 ∧ Reps X.K H2 ds2 xs2 ∧ OutW X i a H2 (il j js fb (us.drop (n + 1)) ρ2 ds2) D,
       fun σ2 Hf2 q => ⟨us.length - (n + 1), by omega, rfl, hlt, q⟩, fun x H2 y => ?_⟩
      obtain ⟨rfl, d, hd, rd⟩ := wk.yld n _ x H2 e2f hlt y
      have rd' := sK (mZ him hd) rd
      rw [ig hd] at o'
      show tO X i fb _ _ _
      refine ⟨H', a, xs', (fgt js ρ').set j (some d), ds', rfl, ha', by rw [List.getElem?_set_ne (Ne.symm hij)]; exact hia', (Envs.fgt js E').set rd', r', ?_⟩
      unfold il at o'
      match hb' : fb ((fgt js ρ').set j (some d)) ds' with
      | none => rw [hb'] at o'; exact o'
      | some (.rt r) => rw [hb'] at o'; exact o'
      | some (.nx ρ2 ds2) => rw [hb'] at o'; exact fun σ2 H3 xs3 e3 h3 hi3 E3 r3 => ⟨H3, xs3, ρ2, ds2, rfl, h3, e2.trans e3, hi3, E3, r3, OutW.mono e3 o'⟩
    · have hn' : n = us.length := by omega
      subst hn'
      rw [List.drop_length] at o'
      exact .inl ⟨wk.stop _ e2f, o' σ' H' xs' (.refl H') ha' hia' (Envs.fgt js E') r'⟩
  · rw [if_neg him] at o0
    exact o0.elim⟩
end FD
namespace FD
open PySem PySem.Spec PyProof.Rows L2 PySem.W
def bJ : Dv → Bool
 | .bl _ => true
 | .int _ => true
 | _ => false
theorem vW (K : PySem.W.Frag) (d : Dv) : PySem.W.kitOne K (.type (tyD d)) (.type "int") = some (bJ d) := by cases d <;> kernel_rfl
def pY : Dv → Bool
 | .lst _ => true
 | .scr _ => true
 | _ => false
theorem zv : bootBuiltins (Str.ofString "int") = some (.type "int") := by kernel_rfl
section
variable {X : Cx} {p pos : Pos} {e : Expr} {es : List Expr} {ga : FnA}
end
def leX : Dv → Dv → Option (Rs Dv)
 | .int i, .int j => some (.ok (.bl (decide (i ≤ j))))
 | .str x, .str y => some (.ok (.bl (!decide (y.cps.toList < x.cps.toList))))
 | _, _ => none
def DK : R2 := fun x y H Q => rI0 (fun i j => .bl (decide (i ≤ j))) x y H Q ∨ ∃ i j, x = .str i ∧ y = .str j ∧ Q (.bl (!decide (j.cps.toList < i.cps.toList))) H
section
variable {X : Cx}
theorem pZ : OpR X (compareOp .LtE) (fun x y H Q => ∃ i j, x = .str i ∧ y = .str j ∧ Q (.bl (!decide (j.cps.toList < i.cps.toList))) H) := by
 intro pins s σ H x y v u Q I rx ry h
 obtain ⟨i, j, rfl, rfl, q⟩ := h
 obtain ⟨t, rfl⟩ := rx
 obtain ⟨t', rfl⟩ := ry
 exact PySem.P.le_str ⟨.bl _, H, I, rfl, q⟩
theorem vX : OpR X (compareOp .LtE) DK := op_le.or pZ
theorem vY : GOp X DK leX := by
 intro dx dy x y H Q rx ry o
 cases dx <;> cases dy <;> try exact (show False from o).elim
 · rename_i i j
   exact .inl ⟨i, j, rx, ry, o _ H (.refl H) rfl⟩
 · rename_i i j
   exact .inr ⟨i, j, rx, ry, o _ H (.refl H) rfl⟩
end
def Cd (K : PySem.W.Frag) (S : List Nat) (Cs : List Addr) (CJ : Addr) : Bool := excIn K CJ bmV "ValueError.__new__" && S.all fun c => excIn K (Cs.getD c 0) bmV "ValueError.__new__" && xiB K (Cs.getD c 0) && mroIn K (Cs.getD c 0) (.ref CJ) == some true && mroIn K (Cs.getD c 0) (.ref (Cs.getD c 0)) == some true &&
 kitOne K (.ref (Cs.getD c 0)) (.type "ValueError") == some true && S.all fun d => kitOne K (.ref (Cs.getD c 0)) (.ref (Cs.getD d 0)) == some (c == d)
structure XAllS (K : PySem.W.Frag) (S : List Nat) (cls : Nat → Addr) (CJ : Addr) : Prop where
 at_ : ∀ c ∈ S, nsIn K mainGlobals (xnm c) = some (some (.ref (cls c))) ∧ excIn K (cls c) bmV "ValueError.__new__" = true ∧ XI K (cls c) ∧ mroIn K (cls c) (.ref CJ) = some true ∧ mroIn K (cls c) (.ref (cls c)) = some true ∧ kitOne K (.ref (cls c)) (.type "ValueError") = some true ∧ ∀ d ∈ S, kitOne K (.ref (cls c)) (.ref (cls d)) = some (c == d)
 exJ : excIn K CJ bmV "ValueError.__new__" = true
theorem sL {K : PySem.W.Frag} {S : List Nat} {Cs : List Addr} {CJ : Addr} (hn : ∀ c ∈ S, nsIn K mainGlobals (xnm c) = some (some (.ref (Cs.getD c 0)))) (h : Cd K S Cs CJ = true) : XAllS K S (fun c => Cs.getD c 0) CJ := by
 unfold Cd at h
 rw [Bool.and_eq_true] at h
 refine ⟨fun c hc => ?_, h.1⟩
 have h1 := List.all_eq_true.mp h.2 c hc
 simp only [Bool.and_eq_true, beq_iff_eq] at h1
 exact ⟨hn c hc, h1.1.1.1.1.1, B8 h1.1.1.1.1.2, h1.1.1.1.2, h1.1.1.2, h1.1.2, fun d hd => by
  have h2 := List.all_eq_true.mp h1.2 d hd
  simpa using h2⟩
section
variable {K : PySem.W.Frag} {S : List Nat} {cls : Nat → Addr} {CJ : Addr} (x : XAllS K S cls CJ)
include x
theorem XAllS.xc (c : Nat) (h : c ∈ S) : XC K c (cls c) := ⟨(x.at_ c h).1, (x.at_ c h).2.1⟩
theorem XAllS.same {c : Nat} {C : Addr} (h : c ∈ S) (q : nsIn K mainGlobals (xnm c) = some (some (.ref C))) : C = cls c := by
 have z := (x.at_ c h).1
 rw [q] at z
 cases z
 rfl
theorem XAllS.xtO (d : Nat) (hd : d ∈ S) : XT K (fun c => if S.contains c then some (c == d) else none) (.ref (cls d)) := fun c b hb C q => by
 dsimp only at hb
 split at hb
 · rename_i h
   have h' : c ∈ S := by simpa using h
   cases hb
   rw [x.same h' q]
   exact ⟨(x.at_ c h').2.2.1, (x.at_ c h').2.2.2.2.2.2 d hd⟩
 · cases hb
theorem XAllS.xtV : XT K (fun c => if S.contains c then some true else none) (.type "ValueError") := fun c b hb C q => by
 dsimp only at hb
 split at hb
 · rename_i h
   have h' : c ∈ S := by simpa using h
   cases hb
   rw [x.same h' q]
   exact ⟨(x.at_ c h').2.2.1, (x.at_ c h').2.2.2.2.2.1⟩
 · cases hb
end
section
variable {X : Cx} {ex hx : Expr} {f g : FnE} {J : Str} {CJ : Addr} {np rp rp2 hpos pos : Pos}
end
end FD
namespace ST
open PySem PySem.SetTable
def stp (m i : Nat) : Nat := (i * 5 + 1) % (m + 1)
def it (m : Nat) : Nat → Nat → Nat
 | 0, i => i
 | k + 1, i => it m k (stp m i)
def sM (m : Nat) : Bool := (List.range (m + 1)).all fun i => (List.range (m + 1)).all fun j => (List.range (m + 1)).any fun k => it m k i == j
theorem Ej : sM 7 = true := by decide +kernel
theorem Ce : sM 31 = true := by decide +kernel
theorem zw {m : Nat} (h : sM m = true) {i j : Nat} (hi : i ≤ m) (hj : j ≤ m) : ∃ k, k ≤ m ∧ it m k i = j := by
 unfold sM at h
 have h1 := List.all_eq_true.mp h i (List.mem_range.mpr (by omega))
 have h2 := List.all_eq_true.mp h1 j (List.mem_range.mpr (by omega))
 obtain ⟨k, hk, e⟩ := List.any_eq_true.mp h2
 exact ⟨k, by have := List.mem_range.mp hk; omega, by simpa using e⟩
def lp (m : Nat) : Nat → Nat × Nat → Nat × Nat
 | 0, x => x
 | r + 1, x => lp m r (leap m x.1 x.2)
theorem p0 (m : Nat) : ∀ (a b : Nat) (x : Nat × Nat), lp m (a + b) x = lp m b (lp m a x)
 | 0, b, x => by rw [Nat.zero_add]; rfl
 | a + 1, b, x => by
  rw [Nat.succ_add]
  show lp m (a + b) (leap m x.1 x.2) = lp m b (lp m a (leap m x.1 x.2))
  exact p0 m a b _
theorem vZ (m : Nat) : ∀ (r : Nat) (x : Nat × Nat), x.1 ≤ m → (lp m r x).1 ≤ m
 | 0, x, h => h
 | r + 1, x, h => vZ m r _ (by
  show (x.1 * 5 + 1 + x.2 / 32) % (m + 1) ≤ m
  exact Nat.le_of_lt_succ (Nat.mod_lt _ (Nat.succ_pos m)))
theorem zx (m : Nat) : ∀ (r : Nat) (x : Nat × Nat), (lp m r x).2 = x.2 / 32 ^ r
 | 0, x => by simp [lp]
 | r + 1, x => by
  show (lp m r (leap m x.1 x.2)).2 = _
  rw [zx m r]
  show x.2 / 32 / 32 ^ r = _
  rw [Nat.div_div_eq_div_mul, Nat.pow_succ, Nat.mul_comm]
theorem p8 (m : Nat) : ∀ (r : Nat) (i : Nat), (lp m r (i, 0)).1 = it m r i
 | 0, i => rfl
 | r + 1, i => by
  show (lp m r (leap m i 0)).1 = it m r (stp m i)
  have e : leap m i 0 = (stp m i, 0) := by unfold leap stp; simp
  rw [e]
  exact p8 m r _
theorem p9 {m : Nat} (c : sM m = true) {i pt j : Nat} (hi : i ≤ m) (hp : pt < 2 ^ 64) (hj : j ≤ m) : ∃ r, r ≤ 13 + m ∧ (lp m r (i, pt)).1 = j := by
 have h0 : (lp m 13 (i, pt)).2 = 0 := by
  rw [zx]
  exact Nat.div_eq_of_lt (by
   show pt < 32 ^ 13; have : (32 : Nat) ^ 13 = 2 ^ 65 := by decide
   omega)
 obtain ⟨k, hk, e⟩ := zw c (vZ m 13 (i, pt) hi) hj
 refine ⟨13 + k, by omega, ?_⟩
 rw [p0]
 have e2 : lp m 13 (i, pt) = ((lp m 13 (i, pt)).1, 0) := by rw [← h0]
 rw [e2, p8]
 exact e
def advN (t : SetTable) : Nat → Probe → Probe
 | 0, p => p
 | n + 1, p => advN t n (t.advance p)
theorem fR (t : SetTable) : ∀ (a b : Nat) (p : Probe), advN t (a + b) p = advN t b (advN t a p)
 | 0, b, p => by rw [Nat.zero_add]; rfl
 | a + 1, b, p => by
  rw [Nat.succ_add]
  exact fR t a b _
structure Vp (t : SetTable) (p : Probe) : Prop where
 i : p.i ≤ t.mask
 pt : p.perturb < 2 ^ 64
 more : p.more ≤ 9
 dm : p.dummy = none
theorem km (m i : Nat) : runEnd m i - i ≤ 9 := by unfold runEnd; split <;> omega
def ko (t : SetTable) (p : Probe) : Probe := { p with j := (leap t.mask p.i p.perturb).1, more := runEnd t.mask (leap t.mask p.i p.perturb).1 - (leap t.mask p.i p.perturb).1, i := (leap t.mask p.i p.perturb).1, perturb := (leap t.mask p.i p.perturb).2 }
theorem m5 (t : SetTable) (p : Probe) (h : p.more = 0) : t.advance p = ko t p := by
 unfold SetTable.advance ko
 rw [if_neg (by omega)]
theorem qa (t : SetTable) (p : Probe) (h : 0 < p.more) : t.advance p = { p with j := p.j + 1, more := p.more - 1 } := by
 unfold SetTable.advance
 rw [if_pos h]
theorem lF (t : SetTable) : ∀ (k : Nat) (p : Probe), p.more = k → advN t (k + 1) p = ko t p
 | 0, p, h => m5 t p h
 | k + 1, p, h => by
  show advN t (k + 1) (t.advance p) = _
  rw [qa t p (by omega), lF t k _ (by show p.more - 1 = k; omega)]
  rfl
theorem qb (m i pt : Nat) (h : pt < 2 ^ 64) : (leap m i pt).2 < 2 ^ 64 := Nat.lt_of_le_of_lt (Nat.div_le_self _ _) h
theorem Vp.leap {t : SetTable} {p : Probe} (v : Vp t p) : Vp t (ko t p) := ⟨by
 show (p.i * 5 + 1 + p.perturb / 32) % (t.mask + 1) ≤ t.mask
 exact Nat.le_of_lt_succ (Nat.mod_lt _ (Nat.succ_pos t.mask)), (show (SetTable.leap t.mask p.i p.perturb).2 < 2 ^ 64 from qb _ _ _ v.pt), (show runEnd t.mask (SetTable.leap t.mask p.i p.perturb).1 - (SetTable.leap t.mask p.i p.perturb).1 ≤ 9 from km _ _), v.dm⟩
theorem Vp.adv {t : SetTable} {p : Probe} (v : Vp t p) : Vp t (t.advance p) := by
 by_cases h : 0 < p.more
 · rw [qa t p h]; exact ⟨v.i, v.pt, by show p.more - 1 ≤ 9; have := v.more; omega, v.dm⟩
 · rw [m5 t p (by omega)]; exact v.leap
theorem Vp.advN {t : SetTable} : ∀ (n : Nat) {p : Probe}, Vp t p → Vp t (advN t n p)
 | 0, p, v => v
 | n + 1, p, v => Vp.advN n v.adv
theorem m7 (t : SetTable) : ∀ (r : Nat) (p : Probe), Vp t p → ∃ n, n ≤ 10 * r ∧ (advN t n p).i = (lp t.mask r (p.i, p.perturb)).1 ∧ (r ≠ 0 → (advN t n p).j = (advN t n p).i)
 | 0, p, v => ⟨0, by omega, rfl, fun h => absurd rfl h⟩
 | r + 1, p, v => by
  obtain ⟨n, h1, h2, h3⟩ := m7 t r (ko t p) v.leap
  refine ⟨p.more + 1 + n, by have := v.more; omega, ?_, fun _ => ?_⟩
  · rw [fR, lF t p.more p rfl, h2]; rfl
  · rw [fR, lF t p.more p rfl]
    by_cases hr : r = 0
    · subst hr
      have hn : n = 0 := by omega
      subst hn
      rfl
    · exact h3 hr
structure Tb (t : SetTable) (n : Nat) : Prop where
 size : t.place.size = n
 dm : t.dummies = #[]
 cyc : sM t.mask = true
 room : n ≤ t.mask
theorem qc (j : Nat) : has #[] j = false := by unfold has; simp
theorem iZ {t : SetTable} {n : Nat} (T : Tb t n) (j : Nat) : t.slot j = .empty ∨ ∃ i, t.slot j = .live i ∧ t.place[i]? = some j := by
 unfold SetTable.slot
 dsimp only
 split
 · rename_i h
   exact .inr ⟨_, rfl, by simpa using h⟩
 · rw [T.dm, qc]
   exact .inl rfl
theorem qd : ∀ (m : Nat) (l : List Nat), l.length ≤ m → ∃ j, j ≤ m ∧ j ∉ l
 | 0, l, h => ⟨0, Nat.le_refl _, by
  have : l = [] := List.length_eq_zero_iff.mp (by omega)
  simp [this]⟩
 | m + 1, l, h => by
  by_cases hm : (m + 1) ∈ l
  · obtain ⟨j, hj, hn⟩ := qd m (l.erase (m + 1)) (by rw [List.length_erase_of_mem hm]; omega)
    refine ⟨j, by omega, fun hl => hn ?_⟩
    exact (List.mem_erase_of_ne (by omega)).mpr hl
  · exact ⟨m + 1, Nat.le_refl _, hm⟩
theorem sN {t : SetTable} {n : Nat} (T : Tb t n) : ∃ j, j ≤ t.mask ∧ t.slot j = .empty := by
 obtain ⟨j, hj, hn⟩ := qd t.mask t.place.toList (by simp [T.size, T.room])
 refine ⟨j, hj, ?_⟩
 rcases iZ T j with h | ⟨i, h, e⟩
 · exact h
 · exact absurd (Array.mem_toList_iff.mpr (Array.mem_of_getElem? e)) hn
theorem Cf {t : SetTable} {n : Nat} (T : Tb t n) {p : Probe} (v : Vp t p) : ∃ N, N < 10 * turns t.mask ∧ t.slot (advN t N p).j = .empty := by
 obtain ⟨j, hj, he⟩ := sN T
 obtain ⟨r, hr, e⟩ := p9 T.cyc (vZ t.mask 1 (p.i, p.perturb) v.i) (by
  show (leap t.mask p.i p.perturb).2 < 2 ^ 64
  exact qb _ _ _ v.pt) hj (pt := (lp t.mask 1 (p.i, p.perturb)).2)
 obtain ⟨N, h1, h2, h3⟩ := m7 t (1 + r) p v
 refine ⟨N, by unfold turns; omega, ?_⟩
 rw [h3 (by omega), h2, p0]
 rw [show lp t.mask 1 (p.i, p.perturb) = ((lp t.mask 1 (p.i, p.perturb)).1, (lp t.mask 1 (p.i, p.perturb)).2) from rfl, e]
 exact he
theorem first {P : Nat → Prop} [DecidablePred P] : ∀ (b : Nat), (∃ n, n < b ∧ P n) → ∃ n, n < b ∧ P n ∧ ∀ k, k < n → ¬ P k
 | 0, ⟨n, h, _⟩ => absurd h (Nat.not_lt_zero _)
 | b + 1, ⟨n, h, hp⟩ => by
  by_cases q : ∃ n, n < b ∧ P n
  · obtain ⟨n, h1, h2, h3⟩ := first b q
    exact ⟨n, by omega, h2, h3⟩
  · have hn : n = b := by
     have : ¬ n < b := fun z => q ⟨n, z, hp⟩
     omega
    subst hn
    exact ⟨n, by omega, hp, fun k hk z => q ⟨k, hk, z⟩⟩
theorem zy {t : SetTable} {n : Nat} (T : Tb t n) {p : Probe} (v : Vp t p) : ∃ N, N < 10 * turns t.mask ∧ t.slot (advN t N p).j = .empty ∧ ∀ k, k < N → t.slot (advN t k p).j ≠ .empty :=
 first (P := fun n => t.slot (advN t n p).j = .empty) _ (Cf T v)
theorem uy {t : SetTable} {n : Nat} (T : Tb t n) (hashAt : Nat → Int) (h : Int) : ∀ (N fuel : Nat) (p : Probe), Vp t p → N < fuel → t.slot (advN t N p).j = .empty → (∀ k, k < N → t.slot (advN t k p).j ≠ .empty) →
 probe.go t hashAt h fuel p = some (.empty (advN t N p).j none) ∨ ∃ m i, m < N ∧ t.slot (advN t m p).j = .live i ∧ t.place[i]? = some (advN t m p).j ∧ hashAt i = h ∧ probe.go t hashAt h fuel p = some (.candidate (advN t m p).j i (advN t (m + 1) p))
 | N, 0, p, v, hf, _, _ => absurd hf (Nat.not_lt_zero _)
 | 0, fuel + 1, p, v, hf, he, _ => by
  refine .inl ?_
  unfold probe.go
  rw [show t.slot p.j = .empty from he]
  show some (Met.empty p.j p.dummy) = _
  rw [v.dm]
  rfl
 | N + 1, fuel + 1, p, v, hf, he, hn => by
  rcases iZ T p.j with h0 | ⟨i, h1, h2⟩
  · exact absurd h0 (hn 0 (by omega))
  · by_cases hh : hashAt i = h
    · refine .inr ⟨0, i, by omega, h1, h2, hh, ?_⟩
      unfold probe.go
      rw [h1]
      dsimp only
      rw [if_pos (by simpa using hh)]
      rfl
    · have hg : probe.go t hashAt h (fuel + 1) p = probe.go t hashAt h fuel (t.advance p) := by
       conv => lhs; unfold probe.go
       rw [h1]
       dsimp only
       rw [if_neg (by simpa using hh)]
      rcases uy T hashAt h N fuel (t.advance p) v.adv (by omega) he (fun k hk => hn (k + 1) (by omega)) with q | ⟨m, i', q1, q2, q3, q4, q5⟩
      · exact .inl (by rw [hg, q]; rfl)
      · exact .inr ⟨m + 1, i', by omega, q2, q3, q4, by rw [hg, q5]; rfl⟩
theorem qe {t : SetTable} (h : Int) : Vp t (t.probeStart h) := ⟨by
 show bits h % (t.mask + 1) ≤ t.mask
 exact Nat.le_of_lt_succ (Nat.mod_lt _ (Nat.succ_pos t.mask)), by
 show bits h < 2 ^ 64
 unfold bits
 have h1 := Int.emod_nonneg h (show (2 ^ 64 : Int) ≠ 0 by decide)
 have h2 := Int.emod_lt_of_pos h (show (0 : Int) < 2 ^ 64 by decide)
 omega, km _ _, rfl⟩
theorem kq {m : Nat} {owner : Array (Option Nat)} : ∀ (fuel i pt : Nat), i ≤ m → (∃ r, r < fuel ∧ (owner.getD (lp m r (i, pt)).1 (some 0)).isNone = true) → ∃ j, layClean.free m owner fuel i pt = some j ∧ (owner.getD j (some 0)).isNone = true
 | 0, i, pt, _, ⟨r, h, _⟩ => absurd h (Nat.not_lt_zero _)
 | fuel + 1, i, pt, hi, ⟨r, h, e⟩ => by
  unfold layClean.free
  split
  · rename_i k hk
    exact ⟨i + k, rfl, by simpa using List.find?_some hk⟩
  · rename_i hk
    cases r with
    | zero =>
     have hm : 0 ∈ List.range (runEnd m i + 1 - i) := List.mem_range.mpr (by unfold runEnd; split <;> omega)
     have := List.find?_eq_none.mp hk 0 hm
     exact absurd (show (owner.getD (i + 0) (some 0)).isNone = true from e) this
    | succ r =>
     exact kq fuel _ _ (by
      show (i * 5 + 1 + pt / 32) % (m + 1) ≤ m
      exact Nat.le_of_lt_succ (Nat.mod_lt _ (Nat.succ_pos m))) ⟨r, by omega, e⟩
theorem uz : ∀ (l : List (Option Nat)) (j k : Nat), l[j]? = some none → ((l.set j (some k)).filterMap id).Perm (k :: l.filterMap id)
 | [], j, k, h => by simp at h
 | x :: l, 0, k, h => by
  have : x = none := by simpa using h
  subst this
  simp
 | x :: l, j + 1, k, h => by
  have ih := uz l j k (by simpa using h)
  cases x with
  | none => simpa using ih
  | some y =>
   show List.Perm (y :: (l.set j (some k)).filterMap id) (k :: y :: l.filterMap id)
   exact (ih.cons y).trans (List.Perm.swap ..)
theorem qf : ∀ (l : List (Option Nat)), (l.filterMap id).length < l.length → ∃ j, j < l.length ∧ l[j]? = some none
 | [], h => by simp at h
 | none :: l, h => ⟨0, by simp, rfl⟩
 | some y :: l, h => by
  obtain ⟨j, h1, h2⟩ := qf l (by simpa using h)
  exact ⟨j + 1, by simpa using h1, by simpa using h2⟩
def v3 (m : Nat) (acc : Option (Array (Option Nat) × Nat)) (h : Int) : Option (Array (Option Nat) × Nat) := do
 let (owner, k) ← acc
 let j ← layClean.free m owner (turns m) (bits h % (m + 1)) (bits h)
 pure (owner.setIfInBounds j (some k), k + 1)
theorem v4 (h : Int) : bits h < 2 ^ 64 := by
 unfold bits
 have h1 := Int.emod_nonneg h (show (2 ^ 64 : Int) ≠ 0 by decide)
 have h2 := Int.emod_lt_of_pos h (show (0 : Int) < 2 ^ 64 by decide)
 omega
theorem getD_none {owner : Array (Option Nat)} {j : Nat} (h : (owner.getD j (some 0)).isNone = true) : j < owner.size ∧ owner.toList[j]? = some none := by
 rw [Array.getD_eq_getD_getElem?] at h
 cases q : owner[j]? with
 | none => rw [q] at h; simp at h
 | some x =>
  rw [q] at h
  have hx : x = none := by simpa using h
  subst hx
  refine ⟨(Array.getElem?_eq_some_iff.mp q).1, by rw [Array.getElem?_toList]; exact q⟩
theorem qg {m : Nat} (c : sM m = true) : ∀ (hs : List Int) (owner : Array (Option Nat)) (k : Nat), owner.size = m + 1 → (owner.toList.filterMap id).Perm (List.range k) → k + hs.length ≤ m →
 ∃ o2, hs.foldl (v3 m) (some (owner, k)) = some (o2, k + hs.length) ∧ o2.size = m + 1 ∧ (o2.toList.filterMap id).Perm (List.range (k + hs.length))
 | [], owner, k, h1, h2, h3 => ⟨owner, rfl, h1, h2⟩
 | h :: hs, owner, k, h1, h2, h3 => by
  have hk : k + (hs.length + 1) ≤ m := by simpa using h3
  obtain ⟨j0, a1, a2⟩ := qf owner.toList (by rw [h2.length_eq, List.length_range]; simp only [Array.length_toList, h1]; omega)
  have hj0 : j0 ≤ m := by simp only [Array.length_toList, h1] at a1; omega
  obtain ⟨r, b1, b2⟩ := p9 c (i := bits h % (m + 1)) (pt := bits h) (Nat.le_of_lt_succ (Nat.mod_lt _ (Nat.succ_pos m))) (v4 h) hj0
  obtain ⟨j, f1, f2⟩ := kq (m := m) (owner := owner) (turns m) (bits h % (m + 1)) (bits h) (Nat.le_of_lt_succ (Nat.mod_lt _ (Nat.succ_pos m))) ⟨r, by unfold turns; omega, by
   rw [b2, Array.getD_eq_getD_getElem?]
   rw [Array.getElem?_toList] at a2
   rw [a2]; rfl⟩
  obtain ⟨g1, g2⟩ := getD_none f2
  have e : v3 m (some (owner, k)) h = some (owner.setIfInBounds j (some k), k + 1) := by
   show (layClean.free m owner (turns m) (bits h % (m + 1)) (bits h)).bind (fun j => some (owner.setIfInBounds j (some k), k + 1)) = _
   rw [f1]; rfl
  rw [List.foldl_cons, e]
  obtain ⟨o2, c1, c2, c3⟩ := qg c hs (owner.setIfInBounds j (some k)) (k + 1) (by rw [Array.size_setIfInBounds]; exact h1) (by
   rw [Array.toList_setIfInBounds]
   refine (uz _ _ _ g2).trans ((h2.cons k).trans ?_)
   rw [List.range_succ]
   exact (List.perm_append_singleton k (List.range k)).symm) (by omega)
  refine ⟨o2, ?_, c2, ?_⟩
  · rw [c1]; simp only [List.length_cons]; congr 2; omega
  · simp only [List.length_cons]; rw [show k + (hs.length + 1) = k + 1 + hs.length by omega]; exact c3
theorem lG {m : Nat} (c : sM m = true) (hs : Array Int) (hl : hs.size ≤ m) : ∃ o2, layClean m hs = some o2 ∧ o2.size = m + 1 ∧ (o2.toList.filterMap id).Perm (List.range hs.size) := by
 obtain ⟨o2, c1, c2, c3⟩ := qg c hs.toList (Array.replicate (m + 1) none) 0 (by simp) (by simp [List.filterMap_replicate]) (by simpa using hl)
 refine ⟨o2, ?_, c2, by simpa using c3⟩
 unfold layClean
 rw [← Array.foldl_toList]
 have e : (List.foldl (fun acc h => do
  let (owner, k) ← acc
  let j ← layClean.free m owner (turns m) (bits h % (m + 1)) (bits h)
  pure (owner.setIfInBounds j (some k), k + 1)) (some (Array.replicate (m + 1) none, 0)) hs.toList : Option (Array (Option Nat) × Nat)) = hs.toList.foldl (v3 m) (some (Array.replicate (m + 1) none, 0)) := rfl
 rw [e, c1]
 rfl
theorem m8 : ∀ (l : List (Option Nat)) (base : Nat), ((List.range l.length).filterMap fun j => (l.getD j none).map (fun x => (base + j, x))).map (·.2) = l.filterMap id
 | [], base => rfl
 | x :: l, base => by
  rw [List.length_cons, List.range_succ_eq_map, List.filterMap_cons, List.filterMap_map]
  have ih := m8 l (base + 1)
  have e : (List.range l.length).filterMap ((fun j => ((x :: l).getD j none).map (fun x => (base + j, x))) ∘ Nat.succ) = (List.range l.length).filterMap fun j => (l.getD j none).map (fun x => (base + 1 + j, x)) := by
   congr 1
   funext j
   show ((x :: l).getD (j + 1) none).map _ = _
   simp only [List.getD_cons_succ]
   rw [show base + (j + 1) = base + 1 + j by omega]
  rw [e]
  cases x with
  | none => simpa using ih
  | some y =>
   simp only [List.getD_cons_zero, Option.map_some, List.map_cons]
   rw [ih]
   rfl
theorem v6 {m finger moves : Nat} {led plain : Bool} (c : sM m = true) (hs : Array Int) (hl : hs.size ≤ m) : ∃ t order, laid m finger moves led plain hs = some (t, order) ∧ t.mask = m ∧ t.moves = moves ∧ t.led = led ∧ t.plain = plain ∧ Tb t hs.size ∧ order.toList.Perm (List.range hs.size) := by
 obtain ⟨o2, c1, c2, c3⟩ := lG c hs hl
 have e := m8 o2.toList 0
 have hlen : ((List.range (m + 1)).filterMap fun j => (o2.getD j none).map (j, ·)) = ((List.range o2.toList.length).filterMap fun j => (o2.toList.getD j none).map (fun x => (0 + j, x))) := by
  rw [Array.length_toList, c2]
  congr 1
  funext j
  rw [Nat.zero_add, Array.getD_eq_getD_getElem?, List.getD_eq_getElem?_getD, Array.getElem?_toList]
 refine ⟨_, _, by unfold laid; rw [c1]; rfl, rfl, rfl, rfl, rfl, ⟨?_, rfl, c, hl⟩, ?_⟩
 · simp only [List.size_toArray, List.length_map]
   rw [hlen]
   have := congrArg List.length e
   rw [List.length_map] at this
   rw [this, c3.length_eq, List.length_range]
 · rw [List.toList_toArray, hlen, e]
   exact c3
theorem fT {α : Type} (xs : Array α) (p : Nat) (x : α) (h : p ≤ xs.size) : (insertAt xs p x).size = xs.size + 1 := by
 unfold insertAt
 simp only [Array.size_append, Array.size_push, Array.size_extract]
 omega
theorem na (xs : Array Nat) (j : Nat) : below xs j ≤ xs.size := by
 unfold below
 have : ∀ (fuel lo hi : Nat), lo ≤ hi → hi ≤ xs.size → below.go xs j fuel lo hi ≤ xs.size := by
  intro fuel
  induction fuel with
  | zero => intro lo hi h1 h2; unfold below.go; omega
  | succ fuel ih =>
   intro lo hi h1 h2
   unfold below.go
   split
   · rename_i hlt
     dsimp only
     split
     · exact ih _ _ (by omega) h2
     · exact ih _ _ (by omega) (by omega)
   · omega
 exact this _ _ _ (Nat.zero_le _) (Nat.le_refl _)
theorem zz {t : SetTable} {n : Nat} (T : Tb t n) (h : n + 1 ≤ t.mask) (j : Nat) : Tb (t.put j).1 (n + 1) ∧ (t.put j).2 ≤ n ∧ (t.put j).1.mask = t.mask ∧ (t.put j).1.led = t.led ∧ (t.put j).1.moves = t.moves := by
 unfold SetTable.put
 refine ⟨⟨?_, ?_, T.cyc, h⟩, ?_, rfl, rfl, rfl⟩
 · show (insertAt t.place (below t.place j) j).size = n + 1
   rw [fT _ _ _ (na _ _), T.size]
 · show (if has t.dummies j then eraseAt t.dummies (below t.dummies j) else t.dummies) = #[]
   rw [T.dm, qc]
   rfl
 · show below t.place j ≤ n
   rw [← T.size]
   exact na _ _
section
variable {prog : Program} {w : World} {A : Around} {E : Value → Shared → Prop} {s : Shared}
abbrev TK (prog : Program) (w : World) (h : Heap) (k : List Str) (a : Addr) : Prop := IsTupleKey (strKind prog w) h k a
abbrev hsh (prog : Program) (w : World) (k : List Str) : Int := tupleKeyHash (strKind prog w) k
theorem kr {k : List Str} {vs : List Value} (h : ItemsAre (strKind prog w) k vs) : ∀ v ∈ vs, ∃ x t, v = .str x t := by
 induction h with
 | nil => intro v hv; simp at hv
 | @cons k' v' ks vs h1 _ ih =>
  intro v hv
  rcases List.mem_cons.mp hv with rfl | hv
  · obtain ⟨t, rfl⟩ := Value.isStrOf_shape h1
    exact ⟨_, _, rfl⟩
  · exact ih v hv
theorem qh {k : List Str} {a : Addr} {Q : Bool → Shared → Prop} (hk : TK prog w s.heap k a) (h : Q false s) : wpAny (model prog w) A (ofAClassStatement 8 (.ref a)) Q E s := by
 have hT := hk.typeIs
 obtain ⟨o, items, n, ho, _, hd, hi⟩ := hk
 unfold ofAClassStatement
 refine wpAny_bind (wpAny_typeOf hT ?_)
 show wpAny _ _ ((if ("tuple" == "tuple") = true then pure true else isSubtype (.type "tuple") (.type "tuple")) >>= _) _ _ s
 rw [if_pos (by decide)]
 refine wpAny_bind (wpAny_pure ?_)
 simp only [Bool.not_true, Bool.false_eq_true, if_false]
 refine wpAny_bind (wpAny_seqItems ho hd ?_)
 refine wpAny_bind ?_
 show wpAny _ _ (forIn items _ _) _ _ s
 rw [← Array.forIn_toList]
 refine wpAny_forIn_list _ (fun rest r s' => r.1 = none ∧ s' = s ∧ ∀ v ∈ rest, ∃ x t, v = Value.str x t) _ ?_ ?_ _ _ ⟨rfl, rfl, kr hi⟩
 · rintro v rest r s' ⟨hr, rfl, hall⟩
   obtain ⟨x, t, rfl⟩ := hall v List.mem_cons_self
   refine wpAny_bind (wpAny_pure ?_)
   simp only [Bool.false_eq_true, if_false]
   exact wpAny_pure ⟨rfl, rfl, fun u hu' => hall u (List.mem_cons_of_mem _ hu')⟩
 · rintro ⟨r1, r2⟩ s' ⟨hr, rfl, _⟩
   simp only at hr
   subst hr
   exact wpAny_pure h
theorem zA {k : List Str} {b : Addr} (hk : TK prog w s.heap k b) {l : List Value} (hl : ∀ v ∈ l, ∃ k' a, v = .ref a ∧ TK prog w s.heap k' a) {Q : Bool → Shared → Prop} (h : Q false s) : wpAny (model prog w) A (searchCouldBeSeen (.ref b) l) Q E s := by
 unfold searchCouldBeSeen
 refine wpAny_bind ?_
 refine wpAny_forIn_list _ (fun rest r s' => r.1 = none ∧ s' = s ∧ ∀ v ∈ rest, ∃ k' a, v = Value.ref a ∧ TK prog w s.heap k' a) _ ?_ ?_ _ _ ⟨rfl, rfl, hl⟩
 · rintro v rest r s' ⟨hr, rfl, hall⟩
   obtain ⟨k', a, rfl, ha⟩ := hall v List.mem_cons_self
   have hrest : ∀ v ∈ rest, ∃ k' a, v = Value.ref a ∧ TK prog w s'.heap k' a := fun u hu' => hall u (List.mem_cons_of_mem _ hu')
   dsimp only
   split
   · exact wpAny_pure ⟨rfl, rfl, hrest⟩
   · refine wpAny_bind (wpAny_eqIsQuiet_tuple hk ?_)
     simp only [Bool.not_true, Bool.false_eq_true, if_false]
     refine wpAny_bind (wpAny_eqIsQuiet_tuple ha ?_)
     simp only [Bool.not_true, Bool.false_eq_true, if_false]
     refine wpAny_bind (qh hk ?_)
     simp only [Bool.false_eq_true, if_false]
     refine wpAny_bind (qh ha ?_)
     simp only [Bool.false_eq_true, if_false]
     exact wpAny_pure ⟨rfl, rfl, hrest⟩
 · rintro ⟨r1, r2⟩ s' ⟨hr, rfl, _⟩
   simp only at hr
   subst hr
   exact wpAny_pure h
theorem lH {k : List Str} {a : Addr} {Q : Bool → Shared → Prop} (hk : TK prog w s.heap k a) (h : ∀ b, Q b s) : wpAny (model prog w) A (hashByValue 8 (.ref a)) Q E s := by
 have hT := hk.typeIs
 obtain ⟨o, items, n, ho, _, hd, hi⟩ := hk
 unfold hashByValue
 refine wpAny_bind (wpAny_specialOf hT F.slot_tuple_hash.lookup ?_)
 dsimp only
 refine wpAny_bind (wpAny_seqItems ho hd ?_)
 refine wpAny_bind ?_
 show wpAny _ _ (forIn items _ _) _ _ s
 rw [← Array.forIn_toList]
 refine wpAny_forIn_list _ (fun rest r s' => r.1 = none ∧ s' = s ∧ ∀ v ∈ rest, ∃ x t, v = Value.str x t) _ ?_ ?_ _ _ ⟨rfl, rfl, kr hi⟩
 · rintro v rest r s' ⟨hr, rfl, hall⟩
   obtain ⟨x, t, rfl⟩ := hall v List.mem_cons_self
   refine wpAny_bind (wpAny_pure ?_)
   simp only [Bool.not_false, if_true]
   refine wpAny_pure ?_
   exact wpAny_pure (h _)
 · rintro ⟨r1, r2⟩ s' ⟨hr, rfl, _⟩
   simp only at hr
   subst hr
   exact wpAny_pure (h _)
def Ent (prog : Program) (w : World) (h : Heap) (ks : List (List Str)) (es : List (Int × Value)) : Prop := ∀ e ∈ es, ∃ k a, k ∈ ks ∧ e.2 = .ref a ∧ TK prog w h k a
theorem jC {t : SetTable} {n : Nat} (T : Tb t n) : t.fits n = true := by
 unfold SetTable.fits SetTable.fill
 rw [T.size, T.dm]
 simp [T.room]
theorem qi {S b : Addr} {o : Obj} {es : Array (Int × Value)} {ep : Nat} {t : SetTable} {ks : List (List Str)} {k : List Str} {h : Int} {adding : Bool} {Q : SetFound → Shared → Prop} (hu : A.units < cLine)
 (ho : s.heap.get? S = some o) (hd : o.data = .set es ep t) (T : Tb t es.size) (hm : t.mask % 2 = 1) (hE : Ent prog w s.heap ks es.toList) (hx : TK prog w s.heap k b) (hk : k ∉ ks) :
 ∀ (N fuel : Nat) (st : Option Probe), (∀ p, st = some p → Vp t p) → N < fuel → t.slot (advN t N (st.getD (t.probeStart h))).j = .empty → (∀ m, m < N → t.slot (advN t m (st.getD (t.probeStart h))).j ≠ .empty) → N < 10 * turns t.mask →
  (∀ j, Q (.free j false) s) → wpAny (model prog w) A (setSearchFrom S (.ref b) h adding fuel st) Q E s := by
 intro N
 induction N using Nat.strongRecOn with
 | _ N ih =>
  intro fuel st hv hf he hn hN hQ
  cases fuel with
  | zero => exact absurd hf (Nat.not_lt_zero _)
  | succ fuel =>
   have hfit := jC T
   have v : Vp t (st.getD (t.probeStart h)) := by
    cases st with
    | none => exact qe h
    | some p => exact hv p rfl
   unfold setSearchFrom
   refine wpAny_bind (wpAny_setState_of ho hd hfit ?_)
   dsimp only
   have hgw : t.gaveWay = false := by unfold SetTable.gaveWay; rw [hm]; rfl
   rw [hgw]
   simp only [Bool.false_eq_true, if_false]
   unfold SetTable.probe
   rcases uy T _ h N _ (st.getD (t.probeStart h)) v hN he hn with q | ⟨m, i, hmN, q1, q2, q3, q5⟩
   · rw [q]
     dsimp only
     exact wpAny_pure (hQ _)
   · rw [q5]
     dsimp only
     have hi : i < es.size := by
      have := (Array.getElem?_eq_some_iff.mp q2).1
      rw [T.size] at this
      exact this
     obtain ⟨k', a, hk', ea, ta⟩ := hE es[i] (Array.mem_toList_iff.mpr (Array.getElem_mem hi))
     have hg : es[i]? = some (es[i].1, .ref a) := by rw [Array.getElem?_eq_getElem hi, ← ea]
     have rest : wpAny (model prog w) A (do
      let some (_, y) := es[i]? | unsupported "internal:set-entry"
      let equal ← holding [y] (eqBool y (.ref b))
      let (es', _, t') ← setState S
      if (adding && equal) = true then return SetFound.there none
      let some same := t'.sameMemory t.moves t.mask | unsupported "set.changed-during-lookup:is-the-new-block-at-the-old-address"
      let still ← match (if same then t'.slot (advN t m (st.getD (t.probeStart h))).j else .empty) with
       | .live i' => match es'[i']? with
        | some (_, y') => do pure (if ← isSame y' y then some i' else none)
        | none => pure none
       | _ => pure none
      match still with
      | none => rule "set.search.anew"; setSearchFrom S (.ref b) h adding fuel none
      | some i' => if equal then return .there (some i') else setSearchFrom S (.ref b) h adding fuel (some (advN t (m + 1) (st.getD (t.probeStart h))))) Q E s := by
      rw [hg]
      dsimp only
      refine wpAny_bind (wpAny_holding (wpAny_eqBool_tuple hu ta hx ?_))
      have hne : decide (k' = k) = false := decide_eq_false fun z => hk (z ▸ hk')
      rw [hne]
      refine wpAny_bind (wpAny_setState_of ho hd hfit ?_)
      dsimp only
      rw [Bool.and_false]
      simp only [Bool.false_eq_true, if_false]
      have hsm : t.sameMemory t.moves t.mask = some true := by unfold SetTable.sameMemory; simp
      rw [hsm]
      dsimp only
      rw [if_pos rfl, q1]
      dsimp only
      rw [hg]
      dsimp only
      have hsame : isSame (Value.ref a) (Value.ref a) = pure true := by
       unfold isSame
       dsimp only
       rw [if_pos (by simp)]
      rw [hsame]
      refine wpAny_bind (wpAny_bind (wpAny_pure (wpAny_pure ?_)))
      rw [if_pos rfl]
      refine ih (N - (m + 1)) (by omega) fuel (some (advN t (m + 1) (st.getD (t.probeStart h)))) (fun p hp => by cases hp; exact Vp.advN (m + 1) v) (by omega) ?_ ?_ (by omega) hQ
      · show t.slot (advN t (N - (m + 1)) (advN t (m + 1) (st.getD (t.probeStart h)))).j = .empty
        rw [← fR, show m + 1 + (N - (m + 1)) = N by omega]
        exact he
      · intro x hx'
        show t.slot (advN t x (advN t (m + 1) (st.getD (t.probeStart h)))).j ≠ .empty
        rw [← fR]
        exact hn _ (by omega)
     by_cases hled : t.led = true
     · rw [hled]
       simp only [Bool.not_true, Bool.false_eq_true, if_false]
       exact rest
     · have hled' : t.led = false := by simpa using hled
       rw [hled']
       simp only [Bool.not_false, if_true]
       refine wpAny_bind (zA hx (fun v hv => ?_) ?_)
       · obtain ⟨e, he', rfl⟩ := List.mem_map.mp hv
         have hem : e ∈ es.toList := by
          have := Array.mem_toList_iff.mp he'
          rw [Array.mem_filter] at this
          exact Array.mem_toList_iff.mpr this.1
         obtain ⟨k2, a2, _, e2, t2⟩ := hE e hem
         exact ⟨k2, a2, e2, t2⟩
       · simp only [Bool.false_eq_true, if_false]
         exact rest
end
section
variable {prog : Program} {w : World} {A : Around} {E : Value → Shared → Prop} {s : Shared}
def SetT (prog : Program) (w : World) (h : Heap) (S : Addr) (ks : List (List Str)) (n : Nat) : Prop :=
 ∃ o es ep t, h.get? S = some o ∧ o.ExactSet ∧ o.data = .set es ep t ∧ es.size = n ∧ Tb t n ∧ ((t.mask = 7 ∧ n ≤ 4) ∨ (t.mask = 31 ∧ n ≤ 18)) ∧ Ent prog w h ks es.toList
theorem TK.keeps {h h' : Heap} {k : List Str} {a S : Addr} {o : Obj} {es ep t} (x : TK prog w h k a) (ho : h.get? S = some o) (hd : o.data = .set es ep t) (hs : Heap.SameBut S h h') : TK prog w h' k a := by
 obtain ⟨o', items, n, ho', hc, hd', hi⟩ := x
 have hne : a ≠ S := by
  rintro rfl
  obtain rfl : o' = o := Option.some.inj (ho'.symm.trans ho)
  rw [hd] at hd'; exact nomatch hd'
 exact ⟨o', items, n, (hs.2 a hne).trans ho', hc, hd', hi⟩
theorem Ent.keeps {h h' : Heap} {ks : List (List Str)} {l : List (Int × Value)} {S : Addr} {o : Obj} {es ep t} (x : Ent prog w h ks l) (ho : h.get? S = some o) (hd : o.data = .set es ep t) (hs : Heap.SameBut S h h') : Ent prog w h' ks l := fun e he => by
 obtain ⟨k, a, h1, h2, h3⟩ := x e he
 exact ⟨k, a, h1, h2, h3.keeps ho hd hs⟩
theorem kt {h : Heap} {S : Addr} {o : Obj} {es es' : Array (Int × Value)} {ep : Nat} {t t' : SetTable} (ho : h.get? S = some o) (hd : o.data = .set es ep t) : (h.update S (Obj.putSet es' t')).get? S = some { o with data := .set es' (ep + 1) t' } := by
 have := Heap.get?_update_self (Obj.putSet es' t') ho (by rw [putSet_of es' t' hd]; rfl)
 rw [putSet_of es' t' hd] at this; exact this
theorem Ent.insert {h : Heap} {ks : List (List Str)} {es : Array (Int × Value)} {k : List Str} {b : Addr} {p : Nat} {x : Int} (hE : Ent prog w h ks es.toList) (hb : TK prog w h k b) : Ent prog w h (k :: ks) (SetTable.insertAt es p (x, .ref b)).toList := fun e he => by
 have he' := (SetTable.insertAt_perm es p (x, Value.ref b)).mem_iff.mp he
 rw [Array.toList_push] at he'
 rcases List.mem_append.mp he' with q | q
 · obtain ⟨k', a, h1, h2, h3⟩ := hE e q
   exact ⟨k', a, List.mem_cons_of_mem _ h1, h2, h3⟩
 · rw [List.mem_singleton] at q
   subst q
   exact ⟨k, b, List.mem_cons_self, rfl, hb⟩
theorem qj {t : SetTable} {n : Nat} (T : Tb t n) : t.fill = n := by unfold SetTable.fill; rw [T.size, T.dm]; simp
theorem i4 {n : Nat} (h : n ≤ 18) : n ≤ sizeLine := by rw [sizeLine_eq]; omega
theorem sO {α : Type} (es : Array α) : (List.range es.size).filterMap (fun i => es[i]?) = es.toList := by
 apply List.ext_getElem?
 intro i
 have : (List.range es.size).filterMap (fun i => es[i]?) = (List.range es.size).pmap (fun i h => es[i]) (fun i h => List.mem_range.mp h) := by
  rw [List.pmap_eq_map_attach, ← List.filterMap_eq_map]
  conv => lhs; rw [← List.attach_map_subtype_val (List.range es.size)]
  rw [List.filterMap_map]
  congr 1
  funext ⟨i, hi⟩
  simp [List.mem_range.mp hi]
 rw [this]
 simp [List.getElem?_pmap, List.getElem?_range]
 by_cases hi : i < es.size
 · simp [hi]
 · simp [hi]
theorem zB {S b : Addr} {ks : List (List Str)} {n : Nat} {k : List Str} {Q : Bool → Shared → Prop} (hu : A.units < cLine) (hS : SetT prog w s.heap S ks n) (hx : TK prog w s.heap k b) (hk : k ∉ ks) (hn : n + 1 ≤ 18)
 (h : ∀ h', Heap.SameBut S s.heap h' → SetT prog w h' S (k :: ks) (n + 1) → Q true { s with heap := h' }) : wpAny (model prog w) A (setAddHashed S (.ref b) (hsh prog w k)) Q E s := by
 obtain ⟨o, es, ep, t, ho, hex, hd, hsz, T, hm, hE⟩ := hS
 have hfit := jC T
 have hfit' : t.fits es.size = true := by rw [hsz]; exact hfit
 have hodd : t.mask % 2 = 1 := by rcases hm with ⟨e, _⟩ | ⟨e, _⟩ <;> rw [e]
 have hroom : n + 1 ≤ t.mask := by rcases hm with ⟨e, q⟩ | ⟨e, q⟩ <;> omega
 unfold setAddHashed setAddHashedIn
 refine wpAny_holding (wpAny_bind (wpAny_setState_of ho hd hfit' ?_))
 dsimp only
 have hbs : byScan (Value.ref b) es = false := by unfold byScan; rfl
 rw [hbs]
 simp only [Bool.false_eq_true, if_false]
 unfold setSearch
 obtain ⟨N, h1, h2, h3⟩ := zy T (qe (t := t) (hsh prog w k))
 have hmk : t.mask ≤ 31 := by rcases hm with ⟨e, _⟩ | ⟨e, _⟩ <;> omega
 refine wpAny_bind (qi (ks := ks) hu ho hd (by rw [hsz]; exact T) hodd hE hx hk N 100000 none (fun p hp => by cases hp) (by unfold turns at h1; omega) h2 h3 h1 fun j => ?_)
 dsimp only
 refine wpAny_bind (wpAny_setState_of ho hd hfit' ?_)
 dsimp only
 obtain ⟨P1, P2, P3, P4, P5⟩ := zz T hroom j
 have go : ∀ bv : Bool, wpAny (model prog w) A (do
  storeSet S (SetTable.insertAt es (t.put j).2 (hsh prog w k, .ref b)) (if bv then (t.put j).1 else { (t.put j).1 with plain := false })
  if (!false && (if bv then (t.put j).1 else { (t.put j).1 with plain := false }).tooFull) = true then setRelay S (SetTable.grown (es.size + 1))
  return true) Q E s := by
  intro bv
  have T2 : ∃ t2, (if bv then (t.put j).1 else { (t.put j).1 with plain := false }) = t2 ∧ Tb t2 (n + 1) ∧ t2.mask = t.mask := by
   cases bv with
   | true => exact ⟨_, rfl, P1, P3⟩
   | false => exact ⟨_, rfl, ⟨P1.size, P1.dm, P1.cyc, P1.room⟩, P3⟩
  obtain ⟨t2, e2, T2, M2⟩ := T2
  rw [e2]
  have hsz2 : (SetTable.insertAt es (t.put j).2 (hsh prog w k, Value.ref b)).size = n + 1 := by
   rw [fT _ _ _ (by rw [hsz]; exact P2), hsz]
  refine wpAny_bind (wpAny_storeSet_of ho hd ?_ (by rw [hsz2]; exact i4 hn))
  have hsb := Heap.SameBut.update s.heap S (Obj.putSet (SetTable.insertAt es (t.put j).2 (hsh prog w k, Value.ref b)) t2)
  have hg := kt (es' := SetTable.insertAt es (t.put j).2 (hsh prog w k, Value.ref b)) (t' := t2) ho hd
  have hE2 : Ent prog w (s.heap.update S (Obj.putSet (SetTable.insertAt es (t.put j).2 (hsh prog w k, Value.ref b)) t2)) (k :: ks) (SetTable.insertAt es (t.put j).2 (hsh prog w k, Value.ref b)).toList := (hE.insert hx).keeps ho hd hsb
  by_cases hf : t2.tooFull = true
  · rw [hf]
    simp only [Bool.not_false, Bool.and_self, if_true]
    have hfl : t2.fill * 5 ≥ t2.mask * 3 := by unfold SetTable.tooFull at hf; simpa using hf
    rw [qj T2, M2] at hfl
    have h5 : n + 1 = 5 ∧ t.mask = 7 := by rcases hm with ⟨e, q⟩ | ⟨e, q⟩ <;> rw [e] at hfl <;> omega
    have hn4 : n = 4 := by omega
    unfold setRelay
    refine wpAny_bind (wpAny_bind (wpAny_setState_of hg rfl (by rw [hsz2]; exact jC T2) ?_))
    dsimp only
    rw [hsz, hn4]
    rw [if_neg (by rw [sizeLine_eq]; decide)]
    have hrl : t2.relaid ((SetTable.insertAt es (t.put j).2 (hsh prog w k, Value.ref b)).map (·.1)) (SetTable.grown (4 + 1)) = laid 31 t2.finger (t2.movedTo 31) t2.led t2.plain ((SetTable.insertAt es (t.put j).2 (hsh prog w k, Value.ref b)).map (·.1)) := by
     unfold SetTable.relaid
     rw [show sizeAbove (SetTable.grown (4 + 1)) - 1 = 31 by decide]
    obtain ⟨t3, order, r1, r2, r3, r4, r5, r6, r7⟩ := v6 (finger := t2.finger) (moves := t2.movedTo 31) (led := t2.led) (plain := t2.plain) Ce ((SetTable.insertAt es (t.put j).2 (hsh prog w k, Value.ref b)).map (·.1)) (by rw [Array.size_map, hsz2]; omega)
    rw [hrl, r1]
    rw [Array.size_map, hsz2] at r6 r7
    have hperm : (order.filterMap (fun i => (SetTable.insertAt es (t.put j).2 (hsh prog w k, Value.ref b))[i]?)).toList.Perm (SetTable.insertAt es (t.put j).2 (hsh prog w k, Value.ref b)).toList := by
     rw [Array.toList_filterMap]
     refine (r7.filterMap _).trans ?_
     rw [← hsz2, sO]
    have hsz3 : (order.filterMap (fun i => (SetTable.insertAt es (t.put j).2 (hsh prog w k, Value.ref b))[i]?)).size = n + 1 := by
     rw [← Array.length_toList, hperm.length_eq, Array.length_toList, hsz2]
    show wpAny (model prog w) A ((if ((order.filterMap (fun i => (SetTable.insertAt es (t.put j).2 (hsh prog w k, Value.ref b))[i]?)).size != (SetTable.insertAt es (t.put j).2 (hsh prog w k, Value.ref b)).size) = true then (unsupported "internal:set-table-lost-an-element" : Sem _) else pure (order.filterMap (fun i => (SetTable.insertAt es (t.put j).2 (hsh prog w k, Value.ref b))[i]?), t3)) >>= fun x => storeSet S x.1 x.2) _ _ _
    rw [if_neg (by rw [hsz3, hsz2]; simp)]
    refine wpAny_bind (wpAny_pure ?_)
    refine wpAny_storeSet_of hg rfl ?_ (by rw [hsz3]; exact i4 hn)
    have hsb2 := Heap.SameBut.update (s.heap.update S (Obj.putSet (SetTable.insertAt es (t.put j).2 (hsh prog w k, Value.ref b)) t2)) S (Obj.putSet (order.filterMap (fun i => (SetTable.insertAt es (t.put j).2 (hsh prog w k, Value.ref b))[i]?)) t3)
    refine wpAny_pure (h _ (hsb.trans hsb2) ⟨_, _, _, t3, kt hg rfl, hex, rfl, hsz3, r6, .inr ⟨r2, hn⟩, ?_⟩)
    have hE3 := hE2.keeps hg rfl hsb2
    exact fun e he => hE3 e (hperm.mem_iff.mp he)
  · have hf' : t2.tooFull = false := by simpa using hf
    rw [hf']
    simp only [Bool.not_false, Bool.and_false, Bool.false_eq_true, if_false]
    have hfl : ¬ (t2.fill * 5 ≥ t2.mask * 3) := by unfold SetTable.tooFull at hf'; simpa using hf'
    rw [qj T2, M2] at hfl
    refine wpAny_pure (h _ hsb ⟨_, _, _, t2, hg, hex, rfl, hsz2, T2, ?_, hE2⟩)
    rw [M2]
    rcases hm with ⟨e, q⟩ | ⟨e, q⟩
    · exact .inl ⟨e, by omega⟩
    · exact .inr ⟨e, hn⟩
 cases hpl : (t.put j).1.plain with
 | true =>
  simp only [if_true]
  refine wpAny_bind (lH hx fun bv => ?_)
  exact go bv
 | false =>
  simp only [Bool.false_eq_true, if_false]
  refine wpAny_bind (wpAny_pure ?_)
  exact go true
end
end ST
namespace ST
open PySem PySem.SetTable PyProof.Rows
section
variable {prog : Program} {w : World} {A : Around} {R : Result → Shared → Prop} {I : Addr} {fp wr : List Addr} {G : Array GenState → Array GenState → Prop} {n : Nat} {P : Nat → Value → Prop} {St : Nat → Shared → Prop}
theorem TK.moved {h h' : Heap} {k : List Str} {a : Addr} (x : TK prog w h k a) (hm : ∀ o, h.get? a = some o → h'.get? a = some o) : TK prog w h' k a := by
 obtain ⟨o', items, n, ho', hc, hd', hi⟩ := x
 exact ⟨o', items, n, hm _ ho', hc, hd', hi⟩
theorem SetT.moved {h h' : Heap} {S : Addr} {ks : List (List Str)} {n : Nat} (x : SetT prog w h S ks n) (hS : ∀ o, h.get? S = some o → h'.get? S = some o) (hm : ∀ k ∈ ks, ∀ a, TK prog w h k a → TK prog w h' k a) : SetT prog w h' S ks n := by
 obtain ⟨o, es, ep, t, ho, hex, hd, hsz, T, hmk, hE⟩ := x
 exact ⟨o, es, ep, t, hS _ ho, hex, hd, hsz, T, hmk, fun e he => let ⟨k, a, h1, h2, h3⟩ := hE e he; ⟨k, a, h1, h2, hm k h1 a h3⟩⟩
theorem Cg (W : WalksS prog w A.in1 I fp wr G n P St) (S : Addr) (hSf : S ∉ fp) (hu : A.in1.units < cLine) (hwr : wr = [I]) (hI : ∀ i s, St i s → ∃ o vs, s.heap.get? I = some o ∧ o.data = .fields vs)
 (adr : Nat → Addr) (key : Nat → List Str) (hval : ∀ i v, P i v → v = .ref (adr i)) (hn : n ≤ 18) (hdist : ∀ i j, i < n → j < n → key i = key j → i = j) :
 ∀ (k i : Nat) (s : Shared), n - i = k → i ≤ n → St i s → (∀ j, j < n → TK prog w s.heap (key j) (adr j)) →
  SetT prog w s.heap S (((List.range i).map key).reverse) i →
  (∀ s', Moved (S :: wr) G s s' → SetT prog w s'.heap S (((List.range n).map key).reverse) n → R (.ok (.ret .none)) s') →
  codeAny (model prog w) A (.builtin "set.update.loop" ⟨[.ref S, .ref I], []⟩) R s := by
 have hSw : S ∉ wr := fun h => hSf (W.sub _ h)
 have hsub : ∀ b ∈ wr, b ∈ S :: wr := fun b hb => List.mem_cons_of_mem _ hb
 have notI : ∀ {i : Nat} {s : Shared} {k : List Str} {a : Addr}, St i s → TK prog w s.heap k a → a ∉ wr := fun {i s k a} hst x hm => by
  rw [hwr, List.mem_singleton] at hm
  subst hm
  obtain ⟨o', items, n, ho', hc, hd', hi⟩ := x
  obtain ⟨o, vs, ho, hd⟩ := hI _ _ hst
  rw [ho] at ho'
  cases ho'
  rw [hd] at hd'
  cases hd'
 intro k
 induction k with
 | zero =>
  intro i s hk hi hst hT hS hR
  have hin : i = n := by omega
  subst hin
  refine codeAny_builtin F.entry_set_update_loop ?_
  rw [Around.under_plainId F.plain_set_update_loop _]
  show wpAny _ A.in1 (pyNext (.ref I) >>= _) _ _ s
  refine wpAny_bind (W.done s _ _ hst fun s' hm => ?_)
  show wpAny _ A.in1 (ret Value.none) _ _ s'
  exact wpAny_pure (hR s' (hm.mono hsub) (hS.moved (fun o ho => hm.heap S _ hSw ho) fun k' _ a x => x.moved fun o ho => hm.heap a _ (notI hst x) ho))
 | succ k ih =>
  intro i s hk hi hst hT hS hR
  have hlt : i < n := by omega
  refine codeAny_builtin F.entry_set_update_loop ?_
  rw [Around.under_plainId F.plain_set_update_loop _]
  show wpAny _ A.in1 (pyNext (.ref I) >>= _) _ _ s
  refine wpAny_bind (W.item i s _ _ hlt hst fun v s' hP hst' hm => ?_)
  have hv := hval i v hP
  subst hv
  have hT' : ∀ j, j < n → TK prog w s'.heap (key j) (adr j) := fun j hj => (hT j hj).moved fun o ho => hm.heap _ _ (notI hst (hT j hj)) ho
  have hS' : SetT prog w s'.heap S (((List.range i).map key).reverse) i := hS.moved (fun o ho => hm.heap S _ hSw ho) fun k' _ a x => x.moved fun o ho => hm.heap a _ (notI hst x) ho
  show wpAny _ A.in1 (holding [Value.ref (adr i)] (setAdd S (.ref (adr i))) >>= _) _ _ s'
  refine wpAny_bind (wpAny_holding ?_)
  unfold setAdd
  refine wpAny_holding ?_
  refine wpAny_bind (wpAny_pyHash_tuple hu (hT' i hlt) ?_)
  have hnew : key i ∉ ((List.range i).map key).reverse := fun hm => by
   rw [List.mem_reverse] at hm
   obtain ⟨j, hj, e⟩ := List.mem_map.mp hm
   have hj' := List.mem_range.mp hj
   have := hdist j i (by omega) hlt e
   omega
  refine zB (s := { s' with toks := s'.toks + ((key i).length + 1) }) hu hS' (hT' i hlt) hnew (by omega) fun h' hsb hS2 => ?_
  obtain ⟨oS, esS, epS, tS, hoS, _, hdS, _⟩ := hS'
  have hS3 : SetT prog w h' S (((List.range (i + 1)).map key).reverse) (i + 1) := by
   rw [List.range_succ, List.map_append, List.reverse_append]
   exact hS2
  refine wpAny_pure ⟨plainId_quiet F.plain_set_update_loop _, ih (i + 1) _ (by omega) hlt (W.frame _ s' _ _ hst' (by simp) fun b hb o e => ?_) (fun j hj => (hT' j hj).keeps hoS hdS hsb) hS3 fun s'' hm'' hS'' => ?_⟩
  · rw [hsb.2 b (fun h : b = S => hSf (by rw [← h]; exact hb))]; exact e
  · refine hR s'' (Moved.trans W.gtrans ((hm.mono hsub).then_heap (by simp) fun b o hb e => ?_) hm'') hS''
    rw [hsb.2 b (fun h : b = S => hb (by rw [h]; exact List.mem_cons_self))]; exact e
end
section
variable {prog : Program} {w : World} {A : Around} {E : Value → Shared → Prop} {s : Shared}
abbrev dU (led : Bool) : Obj := { cls := .type "set", dict := none, data := .set #[] 0 (.fresh 0 0 led) }
theorem v7 {h : Heap} {S : Addr} {led : Bool} (e : h.get? S = some (dU led)) : SetT prog w h S [] 0 :=
 ⟨_, #[], 0, _, e, ⟨rfl, rfl, rfl⟩, rfl, rfl, ⟨rfl, rfl, Ej, Nat.zero_le _⟩, .inl ⟨rfl, by omega⟩, fun e he => by simp at he⟩
theorem zC {led : Bool} {l : Addr} {items : Array Value} {key : Nat → List Str} {adr : Nat → Addr} {R : Result → Shared → Prop} (hh : A.handled = none) (hu : A.units + 8 < cLine) (hl : s.heap.IsList l items)
 (hk : ∀ i, i < items.size → items[i]? = some (.ref (adr i)) ∧ TK prog w s.heap (key i) (adr i)) (hn : items.size ≤ 18) (hdist : ∀ i j, i < items.size → j < items.size → key i = key j → i = j)
 (hR : ∀ (h' : Heap) (tk : Nat), SetT prog w h' s.heap.objs.size (((List.range items.size).map key).reverse) items.size → (∀ b o, b < s.heap.objs.size → s.heap.get? b = some o → h'.get? b = some o) → R (.ok (.ret .none)) { s with heap := h', toks := tk }) :
 codeAny (model prog w) A (.call (.builtin "set.__init__") ⟨[.ref s.heap.objs.size, .ref l], []⟩) R { s with heap := s.heap.push (dU led) } := by
 have hS : (s.heap.push (dU led)).get? s.heap.objs.size = some (dU led) := Heap.get?_push_size _ rfl
 have hT : Shared.TypeIs { s with heap := s.heap.push (dU led) } (.ref s.heap.objs.size) "set" := ⟨_, hS, rfl⟩
 refine codeAny_call_builtin F.called_set.init.plain F.entry_set_init (check_set_init_1 hT ?_)
 obtain ⟨ol, hol, hcl, nl, hdl⟩ := hl
 obtain ⟨ocls, odict, odata, oslots⟩ := ol
 simp only at hcl hdl
 subst hcl; subst hdl
 have hol' : (s.heap.push (dU led)).get? l = some { cls := .type "list", dict := odict, data := .seq items nl, slots := oslots } := Heap.get?_push_of_some _ hol
 have s1 := F.sub_list_set
 have s2 := F.sub_list_frozenset
 have s3 : (Value.type "list" == Value.type "dict") = false := by decide
 have hl1 : (s.heap.push (dU led)).IsList l items := ⟨_, hol', rfl, nl, rfl⟩
 unfold Builtin.«set.__init__» noKeywords Builtin.Frozenset.updateFrom
 generalize hPI : pyIter = PI
 wp_walk
 subst hPI
 refine wpAny_pyIter_list hl1 (wpAny_bind (wpAny_runValue ?_))
 have hlS : l < s.heap.objs.size := Heap.lt_size hol
 have hneI : l ≠ (s.heap.push (dU led)).objs.size := by rw [Heap.size_push]; exact Nat.ne_of_lt (Nat.lt_succ_of_lt hlS)
 have hSf : s.heap.objs.size ∉ [(s.heap.push (dU led)).objs.size, l] := by
  rw [Heap.size_push]
  simp only [List.mem_cons, List.not_mem_nil, or_false, not_or]
  exact ⟨Nat.ne_of_lt (Nat.lt_succ_self _), Nat.ne_of_gt hlS⟩
 have up : ∀ {k : List Str} {a : Addr}, TK prog w s.heap k a → TK prog w ((s.heap.push (dU led)).push { cls := .type "list_iterator", data := .fields #[.ref l, .int 0 0] }) k a := fun x => x.moved fun o e => Heap.get?_push_of_some _ (Heap.get?_push_of_some _ e)
 refine Cg ((Walks.list (by simp [hh]) _ l hneI items).toS) s.heap.objs.size hSf (by show A.units + 1 + 1 < cLine; omega) rfl (fun i s' st => by
  obtain ⟨⟨o, ho, _, hd⟩, _⟩ := st
  exact ⟨o, _, ho, hd⟩) adr key (fun i v hv => ?_) hn hdist (items.size - 0) 0 _ (by omega) (Nat.zero_le _) ⟨⟨_, Heap.get?_push_size _ rfl, rfl, rfl⟩, (hl1.push _)⟩ (fun j hj => up (hk j hj).2) ?_ ?_
 · have hi : i < items.size := (Array.getElem?_eq_some_iff.mp hv).1
   have := (hk i hi).1
   rw [this] at hv
   exact (Option.some.inj hv).symm
 · exact v7 (led := led) (Heap.get?_push_of_some _ hS)
 · intro s' hm hS'
   obtain ⟨h', g', d', tk', os'⟩ := s'
   have eg : g' = s.gens := hm.gens
   have ed : d' = s.drawn := hm.drawn
   have eo : os' = s.os := hm.os
   subst eg; subst ed; subst eo
   show wpAny _ _ _ _ _ _
   refine wpAny_pure ?_
   show wpAny _ _ (ret Value.none) _ _ _
   refine wpAny_pure (hR h' tk' hS' fun b o hb e => ?_)
   have hb1 : b ≠ s.heap.objs.size := Nat.ne_of_lt hb
   have hb2 : b ≠ (s.heap.push (dU led)).objs.size := by rw [Heap.size_push]; exact Nat.ne_of_lt (Nat.lt_succ_of_lt hb)
   exact hm.heap b o (by simp only [List.mem_cons, List.not_mem_nil, or_false, not_or]; exact ⟨hb1, hb2⟩) (Heap.get?_push_of_some _ (Heap.get?_push_of_some _ e))
theorem call_set_T {l : Addr} {items : Array Value} {key : Nat → List Str} {adr : Nat → Addr} {Q : Value → Shared → Prop} (hh : A.handled = none) (hu : A.units + 16 < cLine) (hl : s.heap.IsList l items)
 (hk : ∀ i, i < items.size → items[i]? = some (.ref (adr i)) ∧ TK prog w s.heap (key i) (adr i)) (hn : items.size ≤ 18) (hdist : ∀ i j, i < items.size → j < items.size → key i = key j → i = j)
 (h : ∀ (h' : Heap) (tk : Nat), SetT prog w h' s.heap.objs.size (((List.range items.size).map key).reverse) items.size → (∀ b o, b < s.heap.objs.size → s.heap.get? b = some o → h'.get? b = some o) → Q (.ref s.heap.objs.size) { s with heap := h', toks := tk }) :
 wpAny (model prog w) A (call (.type "set") [.ref l]) Q E s := by
 obtain ⟨c, tl, hmro⟩ := F.called_set.mro
 have hmade := F.called_set.made
 have hsub := F.called_set.sub
 refine wpAny_call (codeAny_of_tree ?_)
 show wpAny _ _ (callAny (.type "set") _) _ _ _
 refine wpAny_pure ⟨Code.quiet_builtin _ (by decide +kernel), codeAny_builtin F.entry_type_call ?_⟩
 rw [Around.under_plain (weight_type_call_type "set" [.ref l] []) rfl]
 have h1 := F.called_set.notType
 have h2 := F.called_set.canCreate
 have hct := F.typeCall_set_1 (.ref l)
 repeat (any_goals (first | assumption | wp_step))
 refine codeAny_mono (code_set_new_1 (.ref l) (E := E) (Q₁ := fun obj s₁ => ∃ led : Bool, obj = .ref s.heap.objs.size ∧ s₁ = { s with heap := s.heap.push (dU led) }) fun led => ⟨led, rfl, rfl⟩) fun r s₁ hr => ?_
 cases r with
 | error e => exact hr
 | ok fl =>
  cases fl with
  | ret obj =>
   obtain ⟨led, rfl, rfl⟩ := hr
   have hT : Shared.TypeIs { s with heap := s.heap.push (dU led) } (.ref s.heap.objs.size) "set" := ⟨_, Heap.get?_push_size _ rfl, rfl⟩
   have hli := F.called_set.init.lookup
   have hbi := F.called_set.init.bind (.ref s.heap.objs.size)
   repeat (any_goals (first | assumption | wp_step))
   refine codeAny_mono (zC (R := wants (fun r s₂ => r = .none ∧ ∃ h' tk, s₂ = { s with heap := h', toks := tk } ∧ SetT prog w h' s.heap.objs.size (((List.range items.size).map key).reverse) items.size ∧
    (∀ b o, b < s.heap.objs.size → s.heap.get? b = some o → h'.get? b = some o)) E) (by simp [hh]) (by show A.units + 1 + 8 < cLine; omega) hl hk hn hdist fun h' tk q1 q2 => ⟨rfl, h', tk, rfl, q1, q2⟩) fun r₂ s₂ hr₂ => ?_
   cases r₂ with
   | error e => exact hr₂
   | ok fl₂ =>
    cases fl₂ with
    | ret r =>
     obtain ⟨rfl, h', tk, rfl, hS', hk'⟩ := hr₂
     repeat (any_goals (first | assumption | wp_step))
     exact h _ _ hS' hk'
    | _ => exact hr₂.elim
  | _ => exact hr.elim
theorem len_T {S : Addr} {ks : List (List Str)} {n : Nat} {Q : Value → Shared → Prop} (hS : SetT prog w s.heap S ks n) (hn : n ≤ 18) (h : ∀ t tk, Q (.int n t) { s with toks := tk }) : wpAny (model prog w) A (call (.builtin "len") [.ref S]) Q E s := by
 obtain ⟨o, es, ep, t, ho, hex, hd, hsz, T, hm, hE⟩ := hS
 subst hsz
 exact call_len_set ho hex hd (jC T) (Int.lt_of_le_of_lt (show ((es.size : Nat) : Int) ≤ 18 by omega) (by decide)) (h _ _)
end
end ST
namespace FD
open PySem PySem.Spec PyProof.Rows L2
def cU : List Dv → Option (List Str)
 | [] => some []
 | .str x :: r => (cU r).map (x :: ·)
 | _ => none
def keysOf : List Dv → Option (List (List Str))
 | [] => some []
 | .tup ds :: r => match cU ds, keysOf r with
  | some k, some ks => some (k :: ks)
  | _, _ => none
 | _ => none
def im : List Dv → Option (Rs Dv)
 | [.lst ds] => match keysOf ds with
  | some ks => if ks.Nodup ∧ ks.length ≤ 18 then some (.ok (.int ks.length)) else none
  | none => none
 | _ => none
section
variable {X : Cx} {pins : List (Addr × Obj)} {σ : L2.St} {H : Hp} {s : Shared}
theorem i5 {prog : Program} {w : World} : ∀ {ds : List Dv} {k : List Str} {ys : List V} {its : List Value}, cU ds = some k → Reps X.K H ds ys → Vals ys its → PySem.ItemsAre (PySem.strKind prog w) k its
 | [], k, ys, its, h, r, v => by
  cases h
  cases (show ys = [] from r)
  cases v
  exact .nil
 | .str x :: ds, k, ys, its, h, r, v => by
  obtain ⟨y, us, rfl, r1, r2⟩ : ∃ v us, ys = v :: us ∧ Rep X.K H (.str x) v ∧ Reps X.K H ds us := r
  cases (show y = .str x from r1)
  obtain ⟨k', h1, rfl⟩ := Option.map_eq_some_iff.mp (show (cU ds).map (x :: ·) = some k from h)
  cases v with
  | cons v1 v2 =>
   obtain ⟨t, rfl⟩ := v1
   exact .cons (by show Value.isStrOf x (.str x t) = true; simp [Value.isStrOf]) (i5 h1 r2 v2)
 | .non :: ds, k, ys, its, h, r, v => by cases h
 | .bl _ :: ds, k, ys, its, h, r, v => by cases h
 | .int _ :: ds, k, ys, its, h, r, v => by cases h
 | .tup _ :: ds, k, ys, its, h, r, v => by cases h
 | .lst _ :: ds, k, ys, its, h, r, v => by cases h
 | .scr _ :: ds, k, ys, its, h, r, v => by cases h
 | .exn _ :: ds, k, ys, its, h, r, v => by cases h
theorem Ch (I : Inv X pins σ H s) {ds : List Dv} {k : List Str} {v : V} {u : Value} (h : cU ds = some k) (r : Rep X.K H (.tup ds) v) (q : RelV v u) : ∃ a, u = .ref a ∧ ST.TK X.prog X.w s.heap k a := by
 obtain ⟨a, xs, rfl, hH, rs⟩ := r.tupE
 cases (show u = Value.ref a from q)
 obtain ⟨its, rv, ⟨o, e, c, n, d⟩, hz⟩ := I.tuple (SqT.of hH)
 exact ⟨a, rfl, o, its.toArray, _, e, c, d, by simpa using i5 h rs rv⟩
theorem qk (I : Inv X pins σ H s) : ∀ {ds : List Dv} {ks : List (List Str)} {xs : List V} {its : List Value}, keysOf ds = some ks → Reps X.K H ds xs → Vals xs its → ks.length = its.length ∧ ∀ i, i < its.length → ∃ a, its[i]? = some (.ref a) ∧ ST.TK X.prog X.w s.heap (ks.getD i []) a
 | [], ks, xs, its, h, r, v => by
  cases h
  cases (show xs = [] from r)
  cases v
  exact ⟨rfl, fun i hi => absurd hi (Nat.not_lt_zero _)⟩
 | .tup es :: ds, ks, xs, its, h, r, v => by
  obtain ⟨y, us, rfl, r1, r2⟩ : ∃ v us, xs = v :: us ∧ Rep X.K H (.tup es) v ∧ Reps X.K H ds us := r
  unfold keysOf at h
  split at h
  · rename_i k ks' h1 h2
    cases h
    cases v with
    | cons v1 v2 =>
     obtain ⟨a, rfl, ta⟩ := Ch I h1 r1 v1
     obtain ⟨q1, q2⟩ := qk I h2 r2 v2
     refine ⟨by simp [q1], fun i hi => ?_⟩
     cases i with
     | zero => exact ⟨a, rfl, ta⟩
     | succ i =>
      obtain ⟨a', e1, e2⟩ := q2 i (by simpa using hi)
      exact ⟨a', by simpa using e1, by simpa using e2⟩
  · cases h
 | .non :: ds, ks, xs, its, h, r, v => by cases h
 | .bl _ :: ds, ks, xs, its, h, r, v => by cases h
 | .int _ :: ds, ks, xs, its, h, r, v => by cases h
 | .str _ :: ds, ks, xs, its, h, r, v => by cases h
 | .lst _ :: ds, ks, xs, its, h, r, v => by cases h
 | .scr _ :: ds, ks, xs, its, h, r, v => by cases h
 | .exn _ :: ds, ks, xs, its, h, r, v => by cases h
theorem og {α : Type} {ks : List α} {d : α} (h : ks.Nodup) {i j : Nat} (hi : i < ks.length) (hj : j < ks.length) (e : ks.getD i d = ks.getD j d) : i = j := by
 rw [List.getD_eq_getElem?_getD, List.getD_eq_getElem?_getD, List.getElem?_eq_getElem hi, List.getElem?_eq_getElem hj] at e
 exact (List.getElem_inj h).mp (by simpa using e)
end
section
variable {X : Cx} {p p2 pos pos2 : Pos} {e : Expr} {ga : FnA}
theorem ql (hu : X.A.units + 64 < cLine) (hc : X.calm = true) (hg : Gl X "len") (hm : X.mg "len" = none) (hg2 : Gl X "set") (hm2 : X.mg "set" = none) (ha : FA X [e] ga)
 (he : starEach [.Call (.Name "set" p2) [e] [] pos2] X.env = (false, eval (.Call (.Name "set" p2) [e] [] pos2) X.env) :: starEach [] X.env := by kernel_rfl) (hpl : (backTo pos (starEach [] X.env)).any (·.1) = false := by kernel_rfl)
 (he2 : starEach [e] X.env = (false, eval e X.env) :: starEach [] X.env := by kernel_rfl) (hpl2 : (backTo pos2 (starEach [] X.env)).any (·.1) = false := by kernel_rfl) :
 FE X (.Call (.Name "len" p) [.Call (.Name "set" p2) [e] [] pos2] [] pos) (fB1 im ga) := ⟨fun pins s σ H Q I ⟨ρ, E, o⟩ => by
 refine wpAny_Call_Name_kw (eW I hg hm PySem.boot_len ?_ (by decide) (by decide))
 refine PyProof.Rows.callWith_builtin1 ?_ he hpl
 rw [he]
 show wpAny _ _ (spliced ((false, eval (.Call (.Name "set" p2) [e] [] pos2) X.env) :: backTo pos (starEach [] X.env))) _ _ s
 refine Calls.spliced_cons ?_
 refine wpAny_Call_Name_kw (eW I hg2 hm2 (u := .type "set") (by decide +kernel) ?_ (by decide) (by decide))
 refine PyProof.Rows.callWith_type1 (thn (ha.h pos2 pins s σ H _ I ⟨ρ, E, OutA.bind o fun ds vs H1 e1 rs o1 => (show ∃ ds, Reps X.K H1 ds vs ∧ Out X H1 (im ds) Q from ⟨ds, rs, o1⟩)⟩) fun us s1 ⟨vs, H1, I1, r1, ds, rs, o1⟩ => ?_) he2 hpl2
 unfold im at o1
 split at o1
 · rename_i es
   obtain ⟨v, rfl, r⟩ := da rs
   obtain ⟨l, xs, rfl, hl, rx⟩ := r.lstE
   obtain ⟨u, rfl, ru⟩ := dQ r1
   cases (show u = Value.ref l from ru)
   split at o1
   · rename_i ks hks
     split at o1
     · rename_i hnd
       obtain ⟨z, its, n, rv, hz, eh⟩ := I1.lstM hl
       obtain ⟨q1, q2⟩ := qk I1 hks rx rv
       have hsz : its.toArray.size = ks.length := by simp [q1]
       refine ST.call_set_T (items := its.toArray) (key := fun i => ks.getD i []) (adr := fun i => match its[i]? with | some (.ref a) => a | _ => 0) (I1.ok.hd hc) (by omega) ⟨_, eh, rfl, n, rfl⟩ (fun i hi => ?_) (by rw [hsz]; exact hnd.2) (fun i j hi hj eij => ?_) fun h' tk hS hkp => ?_
       · obtain ⟨a, e1, e2⟩ := q2 i (by simpa using hi)
         simp only [List.getElem?_toArray, e1]
         exact ⟨trivial, e2⟩
       · exact og hnd.1 (by rw [← hsz]; exact hi) (by rw [← hsz]; exact hj) eij
       · refine Calls.spliced_nil ?_
         refine ST.len_T hS (by rw [hsz]; exact hnd.2) fun t tk2 => ⟨.int (ks.length : Nat), H1, ?_, ⟨t, by rw [hsz]⟩, o1 _ H1 (.refl H1) rfl⟩
         exact I1.kept (t' := tk2) fun b u q => hkp b u (Heap.lt_size q) q
     · exact o1.elim
   · exact o1.elim
 · exact o1.elim⟩
end
def uA : Dv → Dv → Option (Rs Dv)
 | .lst xs, .int n => if 0 ≤ n ∧ xs.length * n.toNat ≤ 100000 ∧ n ≤ 100000 then some (.ok (.lst (List.replicate n.toNat xs).flatten)) else none
 | x, y => DI x y
section
variable {X : Cx}
theorem nb {K : PySem.W.Frag} {H : Hp} {ds : List Dv} {vs : List V} (h : Reps K H ds vs) : ∀ n : Nat, Reps K H (List.replicate n ds).flatten (List.replicate n vs).flatten
 | 0 => rfl
 | n + 1 => by
  rw [List.replicate_succ, List.replicate_succ, List.flatten_cons, List.flatten_cons]
  exact h.append (nb h n)
def zD : R2 := fun x y H Q => Dt x y H Q ∨ (sG x y H Q ∨ rI CMul (fun i j => .int (i * j)) x y H Q)
theorem zE : OpR X (binaryOp .Mult) zD := op_rep.or zj
theorem zF : GOp X zD uA := by
 intro dx dy x y H Q rx ry o
 cases dx with
 | lst xs =>
  cases dy with
  | int n =>
   have o2 : Out X H (if 0 ≤ n ∧ xs.length * n.toNat ≤ 100000 ∧ n ≤ 100000 then some (.ok (.lst (List.replicate n.toNat xs).flatten)) else none) Q := o
   by_cases hc : 0 ≤ n ∧ xs.length * n.toNat ≤ 100000 ∧ n ≤ 100000
   · rw [if_pos hc] at o2
     obtain ⟨p, vs, rfl, h1, q1⟩ := rx.lstE
     refine .inl ⟨p, n, vs, rfl, ry, h1, by omega, by omega, by rw [q1.length]; exact bO hc.2.1, fun l hl => o2 _ _ (aF hl _) ⟨l, _, rfl, av, Reps.mono (aF hl _) _ _ (nb q1 _)⟩⟩
   · rw [if_neg hc] at o2
     exact o2.elim
  | _ => exact .inr (uv _ _ x y H Q rx ry o)
 | _ => exact .inr (uv _ _ x y H Q rx ry o)
end
def frs {α : Type} (P : α → Bool) : Sem α → Bool
 | .pure a => P a
 | .fresh _ => true
 | .at _ k => frs P (k ())
 | .rule _ k => frs P (k ())
 | .point _ k => frs P (k ())
 | _ => false
structure FE1 (X : Cx) (e : Expr) (f : FnE) : Prop where
 h : ∀ (pins : List (Addr × Obj)) (s : Shared) (σ : L2.St) (H : Hp) (Q : VK), 1 ≤ s.toks → Inv X pins σ H s → tF X f σ H Q → wpAny (model X.prog X.w) X.A (eval e X.env) (EP X pins σ Q) X.xe s
structure FT1 (X : Cx) (e : Expr) (f : FnB) : Prop where
 h : ∀ (pins : List (Addr × Obj)) (s : Shared) (σ : L2.St) (H : Hp) (Q : Bool → Hp → Prop), 1 ≤ s.toks → Inv X pins σ H s → tT X f σ H Q → wpAny (model X.prog X.w) X.A (isTrue e X.env (eval e X.env)) (TP X pins σ Q) X.xe s
structure FW1 (X : Cx) (e : Expr) (f : FnB) : Prop where
 h : ∀ (whole : Sem Value) (pins : List (Addr × Obj)) (s : Shared) (σ : L2.St) (H : Hp) (Q : Bool → Hp → Prop), 1 ≤ s.toks → Inv X pins σ H s → tT X f σ H Q → wpAny (model X.prog X.w) X.A (isTrue e X.env whole) (TP X pins σ Q) X.xe s
structure FS1 (X : Cx) (st : Stmt) (f : FnS) : Prop where
 h : ∀ (pins : List (Addr × Obj)) (s : Shared) (σ : L2.St) (H : Hp) (D : oG), 1 ≤ s.toks → Inv X pins σ H s → tS X f D σ H → wpAny (model X.prog X.w) X.A (exec st X.env) (SP X pins D) X.xe s
structure EK (X : Cx) (st : List Stmt) (f : FnS) : Prop where
 h : ∀ (pins : List (Addr × Obj)) (s : Shared) (σ : L2.St) (H : Hp) (D : oG), 1 ≤ s.toks → Inv X pins σ H s → tS X f D σ H → wpAny (model X.prog X.w) X.A (execs st X.env) (SP X pins D) X.xe s
structure FTg (X : Cx) (e : Expr) (f : FnB) : Prop where
 h : ∀ (pins : List (Addr × Obj)) (s : Shared) (σ : L2.St) (H : Hp) (Q : Bool → Hp → Prop), Inv X pins σ H s → tT X f σ H Q → wpAny (model X.prog X.w) X.A (isTrue e X.env (eval e X.env)) (fun b s' => (b = true ∨ 1 ≤ s'.toks) ∧ TP X pins σ Q b s') X.xe s
structure FWg (X : Cx) (e : Expr) (f : FnB) : Prop where
 h : ∀ (whole : Sem Value) (pins : List (Addr × Obj)) (s : Shared) (σ : L2.St) (H : Hp) (Q : Bool → Hp → Prop), Inv X pins σ H s → tT X f σ H Q → wpAny (model X.prog X.w) X.A (isTrue e X.env whole) (fun b s' => (b = true ∨ 1 ≤ s'.toks) ∧ TP X pins σ Q b s') X.xe s
def zG : Flow → Bool
 | .next => true
 | _ => false
structure FSg (X : Cx) (st : Stmt) (f : FnS) : Prop where
 h : ∀ (pins : List (Addr × Obj)) (s : Shared) (σ : L2.St) (H : Hp) (D : oG), Inv X pins σ H s → tS X f D σ H → wpAny (model X.prog X.w) X.A (exec st X.env) (fun fl s' => (zG fl = false ∨ 1 ≤ s'.toks) ∧ SP X pins D fl s') X.xe s
section
variable {X : Cx} {a b o e : Expr} {fa fo : FnE} {ga gb : FnB} {f g : FnS} {rest : List Expr} {st : Stmt} {sts as bs : List Stmt} {pos apos cpos : Pos}
theorem FWg.ft (h : FWg X e ga) : FTg X e ga := ⟨h.h _⟩
end
section
variable {prog : Program} {w : World} {A : Around} {E : Value → Shared → Prop} {s : Shared}
end
section
variable {prog : Program} {w : World} {A : Around} {E : Value → Shared → Prop} {s : Shared}
end
structure ZSt (z TI TO i1 i2 a b : Addr) (i : Nat) (h : Heap) : Prop where
 z : IsZip h z TI TO .none
 ti : IsPair h TI (.ref i1) (.ref i2)
 to : ∃ p q, IsPair h TO p q
 j1 : h.IsTupleIter i1 a i
 j2 : h.IsTupleIter i2 b i
structure ZNe (z TI TO i1 i2 : Addr) : Prop where
 n1 : TI ≠ z
 n2 : TO ≠ z
 n3 : i1 ≠ z
 n4 : i2 ≠ z
 n5 : TI ≠ TO
 n6 : TI ≠ i1
 n7 : TI ≠ i2
 n8 : TO ≠ i1
 n9 : TO ≠ i2
 n10 : i1 ≠ i2
theorem EL {z TI TO i1 i2 c : Addr} (h : c ∈ [z, TI, TO, i1, i2]) : c = z ∨ c = TI ∨ c = TO ∨ c = i1 ∨ c = i2 := by simpa using h
def tgG (X : Cx) (b : Dv → Ev → Option Ev) : TG := fun v σ H Q => ∃ d ρ ρ', Rep X.K H d v ∧ Envs X.K H σ ρ ∧ b d ρ = some ρ' ∧ ∀ σ' H', Same H H' → Envs X.K H' σ' ρ' → Q σ' H'
theorem FG.pg {X : Cx} {tg : Expr} {b : Dv → Ev → Option Ev} (h : FG X tg b) : PG X tg (tgG X b) := fun pins s σ H v u Q I r ⟨d, ρ, ρ', rd, E, e, q⟩ =>
 thn (h.h pins s σ H v u d ρ ρ' I r rd E e) fun _ s' ⟨σ', H', I', e1, E'⟩ => ⟨σ', H', I', q σ' H' e1 E'⟩
section
variable {X : Cx} {p pos : Pos} {e : Expr} {es : List Expr} {ga : FnA}
end
theorem Reps.set {K : PySem.W.Frag} {H : Hp} {d : Dv} {v : V} (rd : Rep K H d v) : ∀ {ds : List Dv} {vs : List V} (j : Nat), Reps K H ds vs → Reps K H (ds.set j d) (vs.set j v)
 | [], vs, j, r => by cases (show vs = [] from r); exact r
 | d0 :: ds, vs, 0, r => by
  obtain ⟨v0, vs', rfl, r0, rt⟩ : ∃ v us', vs = v :: us' ∧ Rep K H d0 v ∧ Reps K H ds us' := r
  exact ⟨v, vs', rfl, rd, rt⟩
 | d0 :: ds, vs, j + 1, r => by
  obtain ⟨v0, vs', rfl, r0, rt⟩ : ∃ v us', vs = v :: us' ∧ Rep K H d0 v ∧ Reps K H ds us' := r
  exact ⟨v0, vs'.set j v, rfl, r0, Reps.set rd j rt⟩
section
variable {X : Cx} {i : Nat} {e ix : Expr} {fe fi : FnE} {pos ps : Pos}
end
section
variable {X : Cx} {p pos : Pos} {e : Expr} {es : List Expr} {ga : FnA}
end
section
variable {X : Cx}
end
section
variable {X : Cx}
end
end FD
namespace ST
open PySem PySem.SetTable
abbrev Rise (xs : Array Nat) : Prop := xs.toList.Pairwise (· < ·)
theorem Rise.lt {xs : Array Nat} (R : Rise xs) {i k : Nat} (hi : i < xs.size) (hk : k < xs.size) (h : i < k) : xs[i] < xs[k] := by
 have := List.pairwise_iff_getElem.mp R i k (by simpa using hi) (by simpa using hk) h
 simpa using this
theorem Rise.le {xs : Array Nat} (R : Rise xs) {i k : Nat} (hi : i < xs.size) (hk : k < xs.size) (h : i ≤ k) : xs[i] ≤ xs[k] := by
 rcases Nat.lt_or_ge i k with h' | h'
 · exact Nat.le_of_lt (R.lt hi hk h')
 · have : i = k := by omega
   subst this
   exact Nat.le_refl _
def tm (m : Nat) : SetTable := { mask := m, place := #[], dummies := #[], finger := 0, led := true, moves := 0, plain := true }
def pos (m : Nat) (h : Int) (n : Nat) : Nat := (advN (tm m) n ((tm m).probeStart h)).j
def Pth (m : Nat) (l : List Nat) (h : Int) (j : Nat) : Prop := ∃ N, N < 10 * turns m ∧ pos m h N = j ∧ ∀ x, x < N → pos m h x ∈ l
theorem Pth.mono {m : Nat} {l l' : List Nat} {h : Int} {j : Nat} (p : Pth m l h j) (hs : ∀ x ∈ l, x ∈ l') : Pth m l' h j := by
 obtain ⟨N, h1, h2, h3⟩ := p
 exact ⟨N, h1, h2, fun x hx => hs _ (h3 x hx)⟩
def asc (t : SetTable) (es : Array (Int × Value)) : List (Nat × (Int × Value)) := t.place.toList.zip es.toList
def Pa (t : SetTable) (es : Array (Int × Value)) : Prop := ∀ je ∈ asc t es, Pth t.mask t.place.toList je.2.1 je.1
section
variable {prog : Program} {w : World} {A : Around} {E : Value → Shared → Prop} {s : Shared}
def SetD (prog : Program) (w : World) (h : Heap) (S : Addr) (ks : List (List Str)) (n : Nat) : Prop :=
 ∃ o es ep t, h.get? S = some o ∧ o.ExactSet ∧ o.data = .set es ep t ∧ es.size = n ∧ Tb t n ∧ ((t.mask = 7 ∧ n ≤ 4) ∨ (t.mask = 31 ∧ n ≤ 18) ∨ (t.mask = 127 ∧ n ≤ 20)) ∧ Ent prog w h ks es.toList ∧ Rise t.place ∧ Pa t es ∧ ∀ k ∈ ks, ∃ a, (hsh prog w k, Value.ref a) ∈ es.toList ∧ TK prog w h k a
end
end ST
namespace ST
open PySem PySem.SetTable PyProof.Rows
def addK {α : Type} [DecidableEq α] (acc : List α) (k : α) : List α := if k ∈ acc then acc else k :: acc
def ddk {α : Type} [DecidableEq α] (ks : List α) : List α := ks.foldl addK []
theorem sP {α : Type} [DecidableEq α] (acc : List α) (k : α) : (addK acc k).length ≤ acc.length + 1 := by unfold addK; split <;> simp
theorem fU {α : Type} [DecidableEq α] : ∀ (ks acc : List α), (ks.foldl addK acc).length ≤ acc.length + ks.length
 | [], acc => Nat.le_refl _
 | k :: ks, acc => by
  have h1 := fU ks (addK acc k)
  have h2 := sP acc k
  rw [List.foldl_cons, List.length_cons]
  omega
theorem ddk_le {α : Type} [DecidableEq α] (ks : List α) : (ddk ks).length ≤ ks.length := by
 have := fU ks []
 unfold ddk
 simpa using this
section
variable {prog : Program} {w : World} {A : Around} {R : Result → Shared → Prop} {I : Addr} {fp wr : List Addr} {G : Array GenState → Array GenState → Prop} {n : Nat} {P : Nat → Value → Prop} {St : Nat → Shared → Prop}
theorem SetD.moved {h h' : Heap} {S : Addr} {ks : List (List Str)} {n : Nat} (x : SetD prog w h S ks n) (hS : ∀ o, h.get? S = some o → h'.get? S = some o) (hm : ∀ k a, TK prog w h k a → TK prog w h' k a) : SetD prog w h' S ks n := by
 obtain ⟨o, es, ep, t, ho, hex, hd, hsz, T, hmk, hE, R, hP, hA⟩ := x
 exact ⟨o, es, ep, t, hS _ ho, hex, hd, hsz, T, hmk, fun e he => let ⟨k, a, h1, h2, h3⟩ := hE e he; ⟨k, a, h1, h2, hm k a h3⟩, R, hP, fun k hk => let ⟨a, q1, q2⟩ := hA k hk; ⟨a, q1, hm k a q2⟩⟩
end
section
variable {prog : Program} {w : World} {A : Around} {E : Value → Shared → Prop} {s : Shared}
end
end ST
namespace FD
open PySem PySem.Spec PyProof.Rows L2
theorem range_getD {α : Type} (ks : List α) (d : α) (n : Nat) (h : n = ks.length) : (List.range n).map (fun i => ks.getD i d) = ks := by
 subst h
 apply List.ext_getElem?
 intro i
 by_cases hi : i < ks.length
 · simp [hi]
 · simp [hi]
section
variable {X : Cx} {p p2 pos pos2 : Pos} {e : Expr} {ga : FnA}
end
section
variable {prog : Program} {w : World} {A : Around} {E : Value → Shared → Prop} {s : Shared}
end
section
variable {prog : Program} {w : World} {A : Around} {E : Value → Shared → Prop} {s : Shared}
end
structure ZMt (z TI TO i1 i2 a b : Addr) (i : Nat) (h : Heap) : Prop where
 z : IsZip h z TI TO .none
 ti : IsPair h TI (.ref i1) (.ref i2)
 to : ∃ p q, IsPair h TO p q
 j1 : h.IsTupleIter i1 a i
 j2 : h.IsListIter i2 b i
def tC (X : Cx) (i : Nat) (fc : FnE) : TS := fun D σ H => ∃ ρ, Envs X.K H σ ρ ∧ match fc ρ with
 | none => False
 | some (.exc c) => XW X c H
 | some (.ok d) => ∃ ys, d = .lst ys ∧ ∀ H5 p vs, Same H H5 → H5 p = none → Reps X.K H5 ys vs → D.nx (σ.set i (some (.ref p))) (upd H5 p (.lst vs))
section
variable {X : Cx} {i : Nat} {st : Stmt} {sts : List Stmt} {f : gX} {fc : FnE}
theorem kv {n : Nat} {cs : List (Str × Nat)} {src : FnA} {b : Dv → Ev → Option Ev} {tst : Option FnB} {fe : FnE} (ρ : Ev) (d : Dv) (h : aU n cs src b tst fe ρ = some (.ok d)) : ∃ ys, d = .lst ys := by
 rcases B1 h with ⟨c, e1, e2⟩ | ⟨ds, ys, e1, e2, l1, l2, e3⟩
 · cases e2
 · cases e3; exact ⟨ys, rfl⟩
end
def oh {α : Type} (le : α → α → Bool) (x : α) : List α → List α
 | [] => [x]
 | y :: l => if le x y then x :: y :: l else y :: oh le x l
def isortB {α : Type} (le : α → α → Bool) : List α → List α
 | [] => []
 | x :: l => oh le x (isortB le l)
theorem fV {α : Type} (le : α → α → Bool) (x : α) : ∀ l : List α, (oh le x l).Perm (x :: l)
 | [] => .refl _
 | y :: l => by
  unfold oh
  split
  · exact .refl _
  · exact ((fV le x l).cons y).trans (List.Perm.swap ..)
theorem isortB_perm {α : Type} (le : α → α → Bool) : ∀ l : List α, (isortB le l).Perm l
 | [] => .refl _
 | x :: l => (fV le x _).trans ((isortB_perm le l).cons x)
structure zH {α : Type} (le : α → α → Bool) : Prop where
 t : ∀ a b, le a b = false → le b a = true
 tr : ∀ a b c, le a b = true → le b c = true → le a c = true
 an : ∀ a b, le a b = true → le b a = true → a = b
theorem io {α : Type} {le : α → α → Bool} (o : zH le) (x : α) : ∀ l : List α, l.Pairwise (fun a b => le a b = true) → (oh le x l).Pairwise (fun a b => le a b = true)
 | [], _ => by simp [oh]
 | y :: l, h => by
  unfold oh
  rw [List.pairwise_cons] at h
  split
  · rename_i hc
    rw [List.pairwise_cons, List.pairwise_cons]
    refine ⟨fun z hz => ?_, h⟩
    rcases List.mem_cons.mp hz with rfl | hz
    · exact hc
    · exact o.tr _ _ _ hc (h.1 z hz)
  · rename_i hc
    rw [List.pairwise_cons]
    refine ⟨fun z hz => ?_, io o x l h.2⟩
    rcases List.mem_cons.mp ((fV le x l).mem_iff.mp hz) with rfl | hz
    · exact o.t _ _ (by simpa using hc)
    · exact h.1 z hz
theorem isortB_sorted {α : Type} {le : α → α → Bool} (o : zH le) : ∀ l : List α, (isortB le l).Pairwise (fun a b => le a b = true)
 | [] => List.Pairwise.nil
 | x :: l => io o x _ (isortB_sorted o l)
theorem sorted_uniq {α : Type} {le : α → α → Bool} (o : zH le) : ∀ {l m : List α}, l.Perm m → l.Pairwise (fun a b => le a b = true) → m.Pairwise (fun a b => le a b = true) → l = m
 | [], m, hp, _, _ => (List.Perm.nil_eq hp)
 | x :: l, [], hp, _, _ => by simpa using hp.length_eq
 | x :: l, y :: m, hp, h1, h2 => by
  rw [List.pairwise_cons] at h1 h2
  have e : x = y := by
   have hx : x ∈ y :: m := hp.mem_iff.mp List.mem_cons_self
   have hy : y ∈ x :: l := hp.mem_iff.mpr List.mem_cons_self
   rcases List.mem_cons.mp hx with e | hx
   · exact e
   · rcases List.mem_cons.mp hy with e | hy
     · exact e.symm
     · exact o.an _ _ (h1.1 y hy) (h2.1 x hx)
  subst e
  rw [sorted_uniq o (hp.cons_inv) h1.2 h2.2]
def leI (a b : Int) : Bool := decide (a ≤ b)
def leS (a b : Str) : Bool := !decide (b.cps.toList < a.cps.toList)
theorem DM : zH leI := ⟨fun a b h => by simp [leI] at *; omega, fun a b c h h' => by simp [leI] at *; omega, fun a b h h' => by simp [leI] at *; omega⟩
theorem ordS : zH leS where
 t := fun a b h => by
  simp only [leS, Bool.not_eq_false', decide_eq_true_eq] at h
  simp only [leS, Bool.not_eq_true', decide_eq_false_iff_not]
  exact fun h' => List.lt_irrefl _ (List.lt_trans h h')
 tr := fun a b c h h' => by
  simp only [leS, Bool.not_eq_true', decide_eq_false_iff_not, List.not_lt] at *
  exact List.le_trans h h'
 an := fun a b h h' => by
  simp only [leS, Bool.not_eq_true', decide_eq_false_iff_not, List.not_lt] at *
  have e : a.cps.toList = b.cps.toList := List.le_antisymm h h'
  obtain ⟨⟨a⟩⟩ := a; obtain ⟨⟨b⟩⟩ := b
  simp at e
  rw [e]
def i7 : List Dv → Option (List Int)
 | [] => some []
 | .int i :: r => (i7 r).map (i :: ·)
 | _ => none
def zI : List Dv → Option (Rs Dv)
 | [.lst ds] => match i7 ds with
  | some ns => if ns.length < 64 then some (.ok (.lst ((isortB leI ns).map Dv.int))) else none
  | none => match cU ds with
   | some ss => if ss.length < 64 then some (.ok (.lst ((isortB leS ss).map Dv.str))) else none
   | none => none
 | _ => none
section
variable {X : Cx} {pins : List (Addr × Obj)} {σ : L2.St} {H : Hp} {s : Shared}
theorem ng {K : PySem.W.Frag} : ∀ {ds : List Dv} {ns : List Int} {ys : List V} {its : List Value}, i7 ds = some ns → Reps K H ds ys → Vals ys its → IntsAre its ns
 | [], ns, ys, its, h, r, v => by
  cases h
  cases (show ys = [] from r)
  cases v
  exact .nil
 | .int i :: ds, ns, ys, its, h, r, v => by
  obtain ⟨y, us, rfl, r1, r2⟩ : ∃ v us, ys = v :: us ∧ Rep K H (.int i) v ∧ Reps K H ds us := r
  cases (show y = .int i from r1)
  obtain ⟨k', h1, rfl⟩ := Option.map_eq_some_iff.mp (show (i7 ds).map (i :: ·) = some ns from h)
  cases v with
  | cons v1 v2 =>
   obtain ⟨t, rfl⟩ := v1
   exact .cons i t (ng h1 r2 v2)
 | .non :: ds, _, _, _, h, _, _ => by cases h
 | .bl _ :: ds, _, _, _, h, _, _ => by cases h
 | .str _ :: ds, _, _, _, h, _, _ => by cases h
 | .tup _ :: ds, _, _, _, h, _, _ => by cases h
 | .lst _ :: ds, _, _, _, h, _, _ => by cases h
 | .scr _ :: ds, _, _, _, h, _, _ => by cases h
 | .exn _ :: ds, _, _, _, h, _, _ => by cases h
theorem gY {K : PySem.W.Frag} : ∀ {ds : List Dv} {ns : List Str} {ys : List V} {its : List Value}, cU ds = some ns → Reps K H ds ys → Vals ys its → StrsAre its ns
 | [], ns, ys, its, h, r, v => by
  cases h
  cases (show ys = [] from r)
  cases v
  exact .nil
 | .str i :: ds, ns, ys, its, h, r, v => by
  obtain ⟨y, us, rfl, r1, r2⟩ : ∃ v us, ys = v :: us ∧ Rep K H (.str i) v ∧ Reps K H ds us := r
  cases (show y = .str i from r1)
  obtain ⟨k', h1, rfl⟩ := Option.map_eq_some_iff.mp (show (cU ds).map (i :: ·) = some ns from h)
  cases v with
  | cons v1 v2 =>
   obtain ⟨t, rfl⟩ := v1
   exact .cons i t (gY h1 r2 v2)
 | .non :: ds, _, _, _, h, _, _ => by cases h
 | .bl _ :: ds, _, _, _, h, _, _ => by cases h
 | .int _ :: ds, _, _, _, h, _, _ => by cases h
 | .tup _ :: ds, _, _, _, h, _, _ => by cases h
 | .lst _ :: ds, _, _, _, h, _, _ => by cases h
 | .scr _ :: ds, _, _, _, h, _, _ => by cases h
 | .exn _ :: ds, _, _, _, h, _, _ => by cases h
theorem dZ : ∀ {its : List Value} {ns : List Int}, IntsAre its ns → Vals (ns.map V.int) its
 | _, _, .nil => .nil
 | _, _, .cons n t h => .cons ⟨t, rfl⟩ (dZ h)
theorem gq : ∀ {its : List Value} {ns : List Str}, StrsAre its ns → Vals (ns.map V.str) its
 | _, _, .nil => .nil
 | _, _, .cons n t h => .cons ⟨t, rfl⟩ (gq h)
theorem kw {K : PySem.W.Frag} (H : Hp) : ∀ ns : List Int, Reps K H (ns.map Dv.int) (ns.map V.int)
 | [] => rfl
 | n :: ns => ⟨_, _, rfl, rfl, kw H ns⟩
theorem gr {K : PySem.W.Frag} (H : Hp) : ∀ ns : List Str, Reps K H (ns.map Dv.str) (ns.map V.str)
 | [] => rfl
 | n :: ns => ⟨_, _, rfl, rfl, gr H ns⟩
theorem kx : ∀ (p : Str) (l : List Str), risingS p l = true → (p :: l).Pairwise (fun a b => leS a b = true)
 | p, [], _ => by simp
 | p, x :: r, h => by
  have h' : (!ltCps x.cps.toList p.cps.toList) = true ∧ risingS x r = true := by simpa [risingS] using h
  have ih := kx x r h'.2
  have hx : leS p x = true := by
   unfold leS
   rw [← ltCps_eq]
   exact h'.1
  rw [List.pairwise_cons]
  refine ⟨fun z hz => ?_, ih⟩
  rw [List.pairwise_cons] at ih
  rcases List.mem_cons.mp hz with rfl | hz
  · exact hx
  · exact ordS.tr _ _ _ hx (ih.1 z hz)
theorem sortedS_pw (l : List Str) (h : sortedS l = true) : l.Pairwise (fun a b => leS a b = true) := by
 cases l with
 | nil => exact .nil
 | cons x r => exact kx x r h
theorem line64 {n : Nat} (h : n < 64) : n ≤ sizeLine := by
 have : sizeLine = 16777216 := by decide
 omega
theorem qm : CallR X (.builtin "sorted") (fun xs H Q => ∃ a ws ds, xs = [.ref a] ∧ H a = some (.lst ws) ∧ Reps X.K H ds ws ∧
 ((∃ ns, i7 ds = some ns ∧ ns.length < 64 ∧ ∀ l, H l = none → Q (.ref l) (upd H l (.lst ((isortB leI ns).map V.int)))) ∨
  (∃ ns, cU ds = some ns ∧ ns.length < 64 ∧ ∀ l, H l = none → Q (.ref l) (upd H l (.lst ((isortB leS ns).map V.str)))))) := by
 intro pins s σ H xs us Q I r h
 obtain ⟨a, ws, ds, rfl, h1, h2, h3⟩ := h
 obtain ⟨u, rfl, ru⟩ := dQ r
 cases ru
 obtain ⟨z, its, n, rv, hl, e⟩ := I.lstM h1
 rcases h3 with ⟨ns, hi, hlen, q⟩ | ⟨ns, hi, hlen, q⟩
 · have hI := ng hi h2 rv
   have hn := hI.length
   refine sorted_ints ⟨_, e, rfl, n, rfl⟩ hI (by omega) fun out ns' a1 a2 a3 => ?_
   have es : ns' = isortB leI ns := sorted_uniq DM (a2.trans (isortB_perm leI ns).symm) (a3.imp fun h => by simpa [leI] using h) (isortB_sorted DM ns)
   subst es
   obtain ⟨ep, he⟩ := sortedAll_at s.heap its out
   refine ⟨.ref (s.heap.objs.size + 1), _, I.laid (t' := s.toks) (o := .lst ((isortB leI ns).map V.int)) (fun b ob q => sortedAll_old q) (Nat.le_succ _) ?_, rfl, q _ (I.hok.fresh (Nat.le_succ _))⟩
   exact ⟨line64 (by rw [List.length_map, (isortB_perm leI ns).length_eq]; exact hlen), out.toList, ep, dZ a1, by simpa [seqObj] using he⟩
 · have hI := gY hi h2 rv
   have hn : its.length = ns.length := by
    have : ∀ {vs : List Value} {ss : List Str}, StrsAre vs ss → vs.length = ss.length := fun h => by
     induction h with
     | nil => rfl
     | cons _ _ _ ih => simp [ih]
    exact this hI
   refine sorted_strs ⟨_, e, rfl, n, rfl⟩ hI (by omega) fun out ns' a1 a2 a3 => ?_
   have es : ns' = isortB leS ns := sorted_uniq ordS (a2.trans (isortB_perm leS ns).symm) (sortedS_pw _ a3) (isortB_sorted ordS ns)
   subst es
   obtain ⟨ep, he⟩ := sortedAll_at s.heap its out
   refine ⟨.ref (s.heap.objs.size + 1), _, I.laid (t' := s.toks) (o := .lst ((isortB leS ns).map V.str)) (fun b ob q => sortedAll_old q) (Nat.le_succ _) ?_, rfl, q _ (I.hok.fresh (Nat.le_succ _))⟩
   exact ⟨line64 (by rw [List.length_map, (isortB_perm leS ns).length_eq]; exact hlen), out.toList, ep, gq a1, by simpa [seqObj] using he⟩
end
section
variable {X : Cx} {p pos : Pos} {e : Expr} {es : List Expr} {ga : FnA}
end
section
variable {X : Cx} {p pos : Pos} {e : Expr} {es : List Expr} {ga : FnA}
end
section
variable {X : Cx} {p pos : Pos} {e : Expr} {es : List Expr} {ga : FnA}
end
section
variable {prog : Program} {w : World} {A : Around} {E : Value → Shared → Prop} {s : Shared}
end
section
variable {prog : Program} {w : World} {A : Around} {E : Value → Shared → Prop} {s : Shared}
end
theorem uB {tst : Option FnB} {elt : FnE} {cap : Ev} : ∀ ds : List Dv, pB tst elt cap ds = fj (gN 0) tst elt cap ds
 | [] => rfl
 | d :: ds => by
  unfold pB fj
  rw [uB ds]
  rfl
theorem v8 (cs : List (Str × Nat)) (src : FnA) (tst : Option FnB) (fe : FnE) : bg cs src tst fe = aU 1 cs src (gN 0) tst fe := by
 funext ρ
 show bnd (src ρ) _ = bnd (src ρ) _
 congr 1
 funext ds
 rw [uB]
 rfl
theorem qo {X : Cx} {st : Stmt} {i : Nat} {fc : FnE} (h : PS X st (tC X i fc)) (hl : ∀ ρ d, fc ρ = some (.ok d) → ∃ ys, d = .lst ys) : FS X st (bh i fc) := ⟨fun pins s σ H D I ⟨ρ, E, o⟩ => by
 refine h pins s σ H D I ⟨ρ, E, ?_⟩
 unfold bh at o
 match hf : fc ρ with
 | none => rw [hf] at o; exact o.elim
 | some (.exc c) => rw [hf] at o; exact o
 | some (.ok d) =>
  rw [hf] at o
  obtain ⟨ys, rfl⟩ := hl ρ d hf
  exact ⟨ys, rfl, fun H5 p vs e5 hp rs => o _ _ (e5.trans (aF hp _)) ((E.mono (e5.trans (aF hp _))).set ⟨p, vs, rfl, av, Reps.mono (aF hp _) _ _ rs⟩)⟩⟩
end FD
namespace ST
open PySem PySem.SetTable PyProof.Rows
abbrev byT (w : World) : Bool := w.params.followText "set-order"
def SetS (prog : Program) (w : World) (h : Heap) (S : Addr) (ks : List Str) : Prop :=
 ∃ o es ep t, h.get? S = some o ∧ o.ExactSet ∧ o.data = .set es ep t ∧ t.fits es.size = true ∧ ks.length ≤ 60 ∧ t.led = (!byT w) ∧ (es.size ≠ 0 → t.plain = false) ∧ ElemsOf (PySem.strKind prog w) es.toList ∧ (∀ e ∈ es.toList, ∃ x t, e.2 = .str x t) ∧ (es.toList.map fun e => strOf e.2).Perm ks
theorem zJ (t : SetTable) (n : Nat) : (t.orStandIn n).led = t.led ∧ ((t.orStandIn n).plain = t.plain ∨ (t.orStandIn n).plain = false) := by
 unfold SetTable.orStandIn
 split
 · exact ⟨rfl, .inl rfl⟩
 · exact ⟨rfl, .inr rfl⟩
theorem v9 (t : SetTable) (es : Array (Int × Value)) (h : Int) (x : Value) : (layNew t es h x).2.1.led = t.led := by
 unfold layNew
 split
 · exact (zJ _ _).1
 · rfl
theorem sQ {m finger moves : Nat} {led plain : Bool} {hs : Array Int} {t : SetTable} {order : Array Nat} (e : laid m finger moves led plain hs = some (t, order)) : t.led = led ∧ t.plain = plain := by
 unfold laid at e
 cases hc : layClean m hs with
 | none => rw [hc] at e; cases e
 | some o => rw [hc] at e; cases e; exact ⟨rfl, rfl⟩
theorem qp (t : SetTable) (es : Array (Int × Value)) (n : Nat) (hp : t.plain = false) : (relayAll t es n).2.1.led = t.led ∧ (relayAll t es n).2.1.plain = false := by
 unfold relayAll
 split
 · rename_i t' order e
   obtain ⟨h1, h2⟩ := sQ e
   dsimp only
   split
   · exact ⟨h1, h2.trans hp⟩
   · exact ⟨rfl, rfl⟩
 · exact ⟨rfl, rfl⟩
section
variable {prog : Program} {w : World} {A : Around} {E : Value → Shared → Prop} {s : Shared}
theorem qr {h : Heap} {S : Addr} {o : Obj} {es : Array (Int × Value)} {ep : Nat} {t : SetTable} (ho : h.get? S = some o) (hex : o.ExactSet) (hd : o.data = .set es ep t) {es' : Array (Int × Value)} {t' : SetTable} {ks : List Str} (hf : t'.fits es'.size = true) (hk : ks.length ≤ 60) (hl : t'.led = (!byT w)) (hp : t'.plain = false)
 (hel : ElemsOf (PySem.strKind prog w) es'.toList) (hs : ∀ e ∈ es'.toList, ∃ x t, e.2 = .str x t) (hm : (es'.toList.map fun e => strOf e.2).Perm ks) : SetS prog w (h.update S (Obj.putSet es' t')) S ks := by
 have hg := Heap.get?_update_self (Obj.putSet es' t') ho (by rw [putSet_of es' t' hd]; rfl)
 rw [putSet_of es' t' hd] at hg
 exact ⟨_, es', ep + 1, t', hg, hex, rfl, hf, hk, hl, fun _ => hp, hel, hs, hm⟩
theorem ky {l l' : List (Int × Value)} (p : l'.Perm l) (hs : ∀ e ∈ l, ∃ x t, e.2 = Value.str x t) {ks : List Str} (hm : (l.map fun e => strOf e.2).Perm ks) : (∀ e ∈ l', ∃ x t, e.2 = Value.str x t) ∧ (l'.map fun e => strOf e.2).Perm ks :=
 ⟨fun e he => hs e (p.mem_iff.mp he), (p.map _).trans hm⟩
theorem uC {es : Array (Int × Value)} {ks : List Str} {k : Str} (hs : ∀ e ∈ es.toList, ∃ x t, e.2 = .str x t) (hm : (es.toList.map fun e => strOf e.2).Perm ks) : (∃ e ∈ es.toList, (PySem.strKind prog w).is k e.2 = true) ↔ k ∈ ks := by
 rw [← hm.mem_iff, List.mem_map]
 constructor
 · rintro ⟨e, he, hk⟩
   obtain ⟨x, t, ex⟩ := hs e he
   refine ⟨e, he, ?_⟩
   rw [ex] at hk ⊢
   have : (x == k) = true := by simpa [PySem.strKind, Value.isStrOf] using hk
   show x = k
   simpa using this
 · rintro ⟨e, he, hk⟩
   obtain ⟨x, t, ex⟩ := hs e he
   refine ⟨e, he, ?_⟩
   rw [ex] at hk ⊢
   have : x = k := hk
   rw [this]
   simp [PySem.strKind, Value.isStrOf]
theorem Ek {S : Addr} {ks : List Str} {k : Str} {tk : Tok} {Q : Bool → Shared → Prop} (hS : SetS prog w s.heap S ks) (hn : ks.length < 60)
 (h : ∀ b h', Heap.SameBut S s.heap h' → SetS prog w h' S (addK ks k) → Q b { s with heap := h' }) : wpAny (model prog w) A (setAddHashed S (.str k tk) ((PySem.strKind prog w).hash k)) Q E s := by
 obtain ⟨o, es, ep, t, ho, hex, hd, hf, hk60, hl, hp, hel, hs, hm⟩ := id hS
 have hkey : (PySem.strKind prog w).is k (.str k tk) = true := strKind_is prog w k tk
 have hsc : (Value.str k tk).scannable = true := rfl
 have hlen : es.size = ks.length := by have := hm.length_eq; simpa using this
 have hb : es.size < scanBound := by rw [hlen]; unfold scanBound; omega
 unfold setAddHashed setAddHashedIn
 refine wpAny_holding (wpAny_bind (wpAny_setState_of ho hd hf ?_))
 dsimp only
 rw [byScan_of hsc hb hel, if_pos rfl]; unfold setAddByScan
 refine wpAny_bind (wpAny_bind (wpAny_rule (wpAny_bind (wpAny_setScan_of hkey ho hd hf hel ?_))))
 have gv : ∀ (b : Bool) {s₁ : Shared} {Q' : Unit → Shared → Prop}, Q' () s₁ → wpAny (model prog w) A (match b with | true => rule "set.scan.the-table-gave-way" | false => pure ()) Q' E s₁ := fun b _ _ z => by
  cases b
  · exact wpAny_pure z
  · exact wpAny_rule z
 cases hr : List.findIdx? (fun e => (PySem.strKind prog w).is k e.2) es.toList with
 | some j =>
  obtain ⟨hj, pj, _⟩ := List.findIdx?_eq_some_iff_getElem.mp hr
  have hin : k ∈ ks := (uC (prog := prog) (w := w) hs hm).mp ⟨es.toList[j], List.getElem_mem hj, pj⟩
  dsimp only
  refine wpAny_pure (wpAny_pure ?_)
  have e : s = { s with heap := s.heap } := by cases s; rfl
  rw [e]
  refine h _ s.heap (Heap.SameBut.refl S s.heap) ?_
  unfold addK
  rw [if_pos hin]
  exact hS
 | none =>
  have hout : k ∉ ks := fun z => by
   obtain ⟨e, he, q⟩ := (uC (prog := prog) (w := w) hs hm).mpr z
   have := List.findIdx?_eq_none_iff.mp hr e he
   rw [q] at this
   cases this
  dsimp only
  have hperm := layNew_perm t es ((PySem.strKind prog w).hash k) (.str k tk)
  have hfits := layNew_fits t es ((PySem.strKind prog w).hash k) (.str k tk)
  have hled := v9 t es ((PySem.strKind prog w).hash k) (.str k tk)
  generalize layNew t es ((PySem.strKind prog w).hash k) (.str k tk) = L at hperm hfits hled ⊢
  obtain ⟨es1, t1, wd, gave⟩ := L
  dsimp only at hperm hfits hled ⊢
  rw [Array.toList_push] at hperm
  have el1 : ElemsOf (PySem.strKind prog w) es1.toList := (hel.push hkey hsc).perm hperm
  have eK : addK ks k = k :: ks := by unfold addK; rw [if_neg hout]
  obtain ⟨s1, m1⟩ := ky hperm (ks := k :: ks) (fun e he => by
   rcases List.mem_append.mp he with he | he
   · exact hs e he
   · rw [List.mem_singleton.mp he]; exact ⟨k, tk, rfl⟩) (by
   rw [List.map_append]
   exact (hm.append_right _).trans (List.perm_append_singleton k ks))
  have z1 : es1.size = ks.length + 1 := by have := m1.length_eq; simpa using this
  have hb1 : es1.size < scanBound := by rw [z1]; unfold scanBound; omega
  refine wpAny_bind (gv _ ?_)
  have tail : ∀ t2 : SetTable, t2.fits es1.size = true → t2.led = (!byT w) → t2.plain = false → wpAny (model prog w) A (do
   storeSet S es1 t2
   if (!wd && t2.tooFull) = true then do
    (match (relayAll t2 es1 (SetTable.grown es1.size)).2.2 with | true => rule "set.scan.the-table-gave-way" | false => pure ())
    storeSet S (relayAll t2 es1 (SetTable.grown es1.size)).1 (relayAll t2 es1 (SetTable.grown es1.size)).2.1
    pure (some true)
    else pure (some true)) (fun a s' => wpAny (model prog w) A (match a with | some added => pure added | none => setAddHashedIn S (.str k tk) ((PySem.strKind prog w).hash k) 99999) Q E s') E s := by
   intro t2 f2 l2 p2
   refine wpAny_bind (wpAny_storeSet_of ho hd ?_ (fits_of_scanBound hb1))
   have S1 : SetS prog w (s.heap.update S (Obj.putSet es1 t2)) S (addK ks k) := by
    rw [eK]
    exact qr ho hex hd f2 (by simp; omega) l2 p2 el1 s1 m1
   have sb1 := Heap.SameBut.update s.heap S (Obj.putSet es1 t2)
   split
   · have hp2 := relayAll_perm t2 es1 (SetTable.grown es1.size)
     have hf2 := relayAll_fits t2 es1 (SetTable.grown es1.size)
     obtain ⟨q1, q2⟩ := qp t2 es1 (SetTable.grown es1.size) p2
     generalize relayAll t2 es1 (SetTable.grown es1.size) = L2 at hp2 hf2 q1 q2 ⊢
     obtain ⟨es2, t3, g2⟩ := L2
     dsimp only at hp2 hf2 q1 q2 ⊢
     obtain ⟨s2, m2⟩ := ky hp2 s1 m1
     have z2 : es2.size = es1.size := by rw [← Array.length_toList, hp2.length_eq, Array.length_toList]
     have ho1 := Heap.get?_update_self (Obj.putSet es1 t2) ho (by rw [putSet_of es1 t2 hd]; rfl)
     rw [putSet_of es1 t2 hd] at ho1
     refine wpAny_bind (gv _ (wpAny_bind (wpAny_storeSet_of ho1 rfl ?_ (fits_of_scanBound (by rw [z2]; exact hb1)))))
     refine wpAny_pure (wpAny_pure (h _ _ (sb1.trans (Heap.SameBut.update _ S _)) ?_))
     rw [eK]
     exact qr ho1 hex rfl hf2 (by simp; omega) (q1.trans l2) q2 (el1.perm hp2) s2 m2
   · exact wpAny_pure (wpAny_pure (h _ _ sb1 S1))
  split
  · rename_i hpl
    refine wpAny_bind ?_
    rw [hashByValue_scannable 8 hsc]
    refine wpAny_pure ?_
    exact tail _ (SetTable.fits_plain_off hfits) (hled.trans hl) rfl
  · rename_i hpl
    refine wpAny_bind (wpAny_pure ?_)
    exact tail _ hfits (hled.trans hl) (by simpa using hpl)
end
section
variable {prog : Program} {w : World} {A : Around} {R : Result → Shared → Prop} {I : Addr} {fp wr : List Addr} {G : Array GenState → Array GenState → Prop} {n : Nat} {P : Nat → Value → Prop} {St : Nat → Shared → Prop}
theorem SetS.moved {h h' : Heap} {S : Addr} {ks : List Str} (x : SetS prog w h S ks) (hS : ∀ o, h.get? S = some o → h'.get? S = some o) : SetS prog w h' S ks := by
 obtain ⟨o, es, ep, t, ho, r⟩ := x
 exact ⟨o, es, ep, t, hS _ ho, r⟩
theorem zK (W : WalksS prog w A.in1 I fp wr G n P St) (S : Addr) (hSf : S ∉ fp) (key : Nat → Str) (hval : ∀ i v, P i v → ∃ tk, v = .str (key i) tk) (hn : n ≤ 59) :
 ∀ (k i : Nat) (s : Shared), n - i = k → i ≤ n → St i s → SetS prog w s.heap S (ddk ((List.range i).map key)) →
  (∀ s', Moved (S :: wr) G s s' → SetS prog w s'.heap S (ddk ((List.range n).map key)) → R (.ok (.ret .none)) s') →
  codeAny (model prog w) A (.builtin "set.update.loop" ⟨[.ref S, .ref I], []⟩) R s := by
 have hSw : S ∉ wr := fun h => hSf (W.sub _ h)
 have hsub : ∀ b ∈ wr, b ∈ S :: wr := fun b hb => List.mem_cons_of_mem _ hb
 intro k
 induction k with
 | zero =>
  intro i s hk hi hst hS hR
  have hin : i = n := by omega
  subst hin
  refine codeAny_builtin F.entry_set_update_loop ?_
  rw [Around.under_plainId F.plain_set_update_loop _]
  show wpAny _ A.in1 (pyNext (.ref I) >>= _) _ _ s
  refine wpAny_bind (W.done s _ _ hst fun s' hm => ?_)
  show wpAny _ A.in1 (ret Value.none) _ _ s'
  exact wpAny_pure (hR s' (hm.mono hsub) (hS.moved fun o ho => hm.heap S _ hSw ho))
 | succ k ih =>
  intro i s hk hi hst hS hR
  have hlt : i < n := by omega
  refine codeAny_builtin F.entry_set_update_loop ?_
  rw [Around.under_plainId F.plain_set_update_loop _]
  show wpAny _ A.in1 (pyNext (.ref I) >>= _) _ _ s
  refine wpAny_bind (W.item i s _ _ hlt hst fun v s' hP hst' hm => ?_)
  obtain ⟨tk, rfl⟩ := hval i v hP
  have hS' : SetS prog w s'.heap S (ddk ((List.range i).map key)) := hS.moved fun o ho => hm.heap S _ hSw ho
  show wpAny _ A.in1 (holding [Value.str (key i) tk] (setAdd S (.str (key i) tk)) >>= _) _ _ s'
  refine wpAny_bind (wpAny_holding ?_)
  unfold setAdd
  refine wpAny_holding ?_
  refine wpAny_bind ((PySem.strKind prog w).pyHash (strKind_is prog w (key i) tk) ?_)
  have estep : ddk ((List.range (i + 1)).map key) = addK (ddk ((List.range i).map key)) (key i) := by
   unfold ddk
   rw [List.range_succ, List.map_append, List.foldl_append]
   rfl
  have hle : (ddk ((List.range i).map key)).length ≤ i := by
   have := ddk_le ((List.range i).map key)
   simpa using this
  refine Ek (s := { s' with toks := s'.toks + 1 }) hS' (by omega) fun bb h' hsb hS2 => ?_
  rw [← estep] at hS2
  refine wpAny_pure ⟨plainId_quiet F.plain_set_update_loop _, ih (i + 1) _ (by omega) hlt (W.frame _ s' _ _ hst' (by simp) fun b hb o e => ?_) hS2 fun s'' hm'' hS'' => ?_⟩
  · rw [hsb.2 b (fun h : b = S => hSf (by rw [← h]; exact hb))]; exact e
  · refine hR s'' (Moved.trans W.gtrans ((hm.mono hsub).then_heap (by simp) fun b o hb e => ?_) hm'') hS''
    rw [hsb.2 b (fun h : b = S => hb (by rw [h]; exact List.mem_cons_self))]; exact e
end
section
variable {prog : Program} {w : World} {A : Around} {E : Value → Shared → Prop} {s : Shared}
theorem nh {h : Heap} {S : Addr} (e : h.get? S = some (dU (!byT w))) : SetS prog w h S [] :=
 ⟨_, #[], 0, _, e, ⟨rfl, rfl, rfl⟩, rfl, rfl, by simp, rfl, fun z => absurd rfl z, fun e he => by simp at he, fun e he => by simp at he, .refl _⟩
theorem qs (a : Value) {Q₁ : Value → Shared → Prop} (h : Q₁ (.ref s.heap.objs.size) { s with heap := s.heap.push (dU (!byT w)) }) : codeAny (model prog w) A (.call (.builtin "set.__new__") ⟨[.type "set", a], []⟩) (wants Q₁ E) s := by
 refine codeAny_of_tree ?_; show wpAny _ A.in1 (do checkBuiltinCall "set.__new__" ⟨[.type "set", a], []⟩; again (.builtin "set.__new__" ⟨[.type "set", a], []⟩)) _ _ s
 refine wpAny_bind (wpAny_of_eq (F.newCall_set_1 a) (wpAny_pure ⟨plainId_quiet F.plain_set_new _, codeAny_builtin F.entry_set_new ?_⟩)); rw [Around.under_plainId F.plain_set_new _]
 unfold Builtin.«set.__new__» Builtin.Frozenset.newClass; have hsub := sub_set_self; obtain ⟨hp, g, d, tk, os⟩ := s
 dsimp only; wp_walk; refine wpAny_askSetting (wpAny_pure ?_)
 dsimp only; simp only [newObj]; exact wpAny_bind (wpAny_alloc (wpAny_pure (wpAny_pure h)))
theorem wa {l : Addr} {items : Array Value} {key : Nat → Str} {R : Result → Shared → Prop} (hh : A.handled = none) (hl : s.heap.IsList l items)
 (hk : ∀ (i : Nat) (v : Value), items[i]? = some v → ∃ tk, v = Value.str (key i) tk) (hn : items.size ≤ 59)
 (hR : ∀ (h' : Heap) (tk : Nat), SetS prog w h' s.heap.objs.size (ddk ((List.range items.size).map key)) → (∀ b o, b < s.heap.objs.size → s.heap.get? b = some o → h'.get? b = some o) → R (.ok (.ret .none)) { s with heap := h', toks := tk }) :
 codeAny (model prog w) A (.call (.builtin "set.__init__") ⟨[.ref s.heap.objs.size, .ref l], []⟩) R { s with heap := s.heap.push (dU (!byT w)) } := by
 have hS : (s.heap.push (dU (!byT w))).get? s.heap.objs.size = some (dU (!byT w)) := Heap.get?_push_size _ rfl
 have hT : Shared.TypeIs { s with heap := s.heap.push (dU (!byT w)) } (.ref s.heap.objs.size) "set" := ⟨_, hS, rfl⟩
 refine codeAny_call_builtin F.called_set.init.plain F.entry_set_init (check_set_init_1 hT ?_)
 obtain ⟨ol, hol, hcl, nl, hdl⟩ := hl
 obtain ⟨ocls, odict, odata, oslots⟩ := ol
 simp only at hcl hdl
 subst hcl; subst hdl
 have hol' : (s.heap.push (dU (!byT w))).get? l = some { cls := .type "list", dict := odict, data := .seq items nl, slots := oslots } := Heap.get?_push_of_some _ hol
 have s1 := F.sub_list_set
 have s2 := F.sub_list_frozenset
 have s3 : (Value.type "list" == Value.type "dict") = false := by decide
 have hl1 : (s.heap.push (dU (!byT w))).IsList l items := ⟨_, hol', rfl, nl, rfl⟩
 unfold Builtin.«set.__init__» noKeywords Builtin.Frozenset.updateFrom
 generalize hPI : pyIter = PI
 wp_walk
 subst hPI
 refine wpAny_pyIter_list hl1 (wpAny_bind (wpAny_runValue ?_))
 have hlS : l < s.heap.objs.size := Heap.lt_size hol
 have hneI : l ≠ (s.heap.push (dU (!byT w))).objs.size := by rw [Heap.size_push]; exact Nat.ne_of_lt (Nat.lt_succ_of_lt hlS)
 have hSf : s.heap.objs.size ∉ [(s.heap.push (dU (!byT w))).objs.size, l] := by
  rw [Heap.size_push]
  simp only [List.mem_cons, List.not_mem_nil, or_false, not_or]
  exact ⟨Nat.ne_of_lt (Nat.lt_succ_self _), Nat.ne_of_gt hlS⟩
 refine zK ((Walks.list (by simp [hh]) _ l hneI items).toS) s.heap.objs.size hSf key hk hn (items.size - 0) 0 _ (by omega) (Nat.zero_le _) ⟨⟨_, Heap.get?_push_size _ rfl, rfl, rfl⟩, (hl1.push _)⟩ ?_ ?_
 · exact nh (Heap.get?_push_of_some _ hS)
 · intro s' hm hS'
   obtain ⟨h', g', d', tk', os'⟩ := s'
   have eg : g' = s.gens := hm.gens
   have ed : d' = s.drawn := hm.drawn
   have eo : os' = s.os := hm.os
   subst eg; subst ed; subst eo
   show wpAny _ _ _ _ _ _
   refine wpAny_pure ?_
   show wpAny _ _ (ret Value.none) _ _ _
   refine wpAny_pure (hR h' tk' hS' fun b o hb e => ?_)
   have hb1 : b ≠ s.heap.objs.size := Nat.ne_of_lt hb
   have hb2 : b ≠ (s.heap.push (dU (!byT w))).objs.size := by rw [Heap.size_push]; exact Nat.ne_of_lt (Nat.lt_succ_of_lt hb)
   exact hm.heap b o (by simp only [List.mem_cons, List.not_mem_nil, or_false, not_or]; exact ⟨hb1, hb2⟩) (Heap.get?_push_of_some _ (Heap.get?_push_of_some _ e))
theorem call_set_L2 {l : Addr} {items : Array Value} {key : Nat → Str} {Q : Value → Shared → Prop} (hh : A.handled = none) (hl : s.heap.IsList l items)
 (hk : ∀ (i : Nat) (v : Value), items[i]? = some v → ∃ tk, v = Value.str (key i) tk) (hn : items.size ≤ 59)
 (h : ∀ (h' : Heap) (tk : Nat), SetS prog w h' s.heap.objs.size (ddk ((List.range items.size).map key)) → (∀ b o, b < s.heap.objs.size → s.heap.get? b = some o → h'.get? b = some o) → Q (.ref s.heap.objs.size) { s with heap := h', toks := tk }) :
 wpAny (model prog w) A (call (.type "set") [.ref l]) Q E s := by
 obtain ⟨c, tl, hmro⟩ := F.called_set.mro
 have hmade := F.called_set.made
 have hsub := F.called_set.sub
 refine wpAny_call (codeAny_of_tree ?_)
 show wpAny _ _ (callAny (.type "set") _) _ _ _
 refine wpAny_pure ⟨Code.quiet_builtin _ (by decide +kernel), codeAny_builtin F.entry_type_call ?_⟩
 rw [Around.under_plain (weight_type_call_type "set" [.ref l] []) rfl]
 have h1 := F.called_set.notType
 have h2 := F.called_set.canCreate
 have hct := F.typeCall_set_1 (.ref l)
 repeat (any_goals (first | assumption | wp_step))
 refine codeAny_mono (qs (.ref l) (E := E) (Q₁ := fun obj s₁ => obj = .ref s.heap.objs.size ∧ s₁ = { s with heap := s.heap.push (dU (!byT w)) }) ⟨rfl, rfl⟩) fun r s₁ hr => ?_
 cases r with
 | error e => exact hr
 | ok fl =>
  cases fl with
  | ret obj =>
   obtain ⟨rfl, rfl⟩ := hr
   have hT : Shared.TypeIs { s with heap := s.heap.push (dU (!byT w)) } (.ref s.heap.objs.size) "set" := ⟨_, Heap.get?_push_size _ rfl, rfl⟩
   have hli := F.called_set.init.lookup
   have hbi := F.called_set.init.bind (.ref s.heap.objs.size)
   repeat (any_goals (first | assumption | wp_step))
   refine codeAny_mono (wa (R := wants (fun r s₂ => r = .none ∧ ∃ h' tk, s₂ = { s with heap := h', toks := tk } ∧ SetS prog w h' s.heap.objs.size (ddk ((List.range items.size).map key)) ∧
    (∀ b o, b < s.heap.objs.size → s.heap.get? b = some o → h'.get? b = some o)) E) (by simp [hh]) hl hk hn fun h' tk q1 q2 => ⟨rfl, h', tk, rfl, q1, q2⟩) fun r₂ s₂ hr₂ => ?_
   cases r₂ with
   | error e => exact hr₂
   | ok fl₂ =>
    cases fl₂ with
    | ret r =>
     obtain ⟨rfl, h', tk, rfl, hS', hk'⟩ := hr₂
     repeat (any_goals (first | assumption | wp_step))
     exact h _ _ hS' hk'
    | _ => exact hr₂.elim
  | _ => exact hr.elim
theorem wb {l : Addr} {items : Array Value} {key : Nat → Str} {R : Result → Shared → Prop} (hh : A.handled = none) (hl : s.heap.IsTuple l items)
 (hk : ∀ (i : Nat) (v : Value), items[i]? = some v → ∃ tk, v = Value.str (key i) tk) (hn : items.size ≤ 59)
 (hR : ∀ (h' : Heap) (tk : Nat), SetS prog w h' s.heap.objs.size (ddk ((List.range items.size).map key)) → (∀ b o, b < s.heap.objs.size → s.heap.get? b = some o → h'.get? b = some o) → R (.ok (.ret .none)) { s with heap := h', toks := tk }) :
 codeAny (model prog w) A (.call (.builtin "set.__init__") ⟨[.ref s.heap.objs.size, .ref l], []⟩) R { s with heap := s.heap.push (dU (!byT w)) } := by
 have hS : (s.heap.push (dU (!byT w))).get? s.heap.objs.size = some (dU (!byT w)) := Heap.get?_push_size _ rfl
 have hT : Shared.TypeIs { s with heap := s.heap.push (dU (!byT w)) } (.ref s.heap.objs.size) "set" := ⟨_, hS, rfl⟩
 refine codeAny_call_builtin F.called_set.init.plain F.entry_set_init (check_set_init_1 hT ?_)
 obtain ⟨ol, hol, hcl, nl, hdl⟩ := hl
 obtain ⟨ocls, odict, odata, oslots⟩ := ol
 simp only at hcl hdl
 subst hcl; subst hdl
 have hol' : (s.heap.push (dU (!byT w))).get? l = some { cls := .type "tuple", dict := odict, data := .seq items nl, slots := oslots } := Heap.get?_push_of_some _ hol
 have s1 := F.sub_tuple_set
 have s2 := F.sub_tuple_frozenset
 have s3 : (Value.type "tuple" == Value.type "dict") = false := by decide
 have hl1 : (s.heap.push (dU (!byT w))).IsTuple l items := ⟨_, hol', rfl, nl, rfl⟩
 unfold Builtin.«set.__init__» noKeywords Builtin.Frozenset.updateFrom
 generalize hPI : pyIter = PI
 wp_walk
 subst hPI
 refine wpAny_pyIter_tuple hl1 (wpAny_bind (wpAny_runValue ?_))
 have hlS : l < s.heap.objs.size := Heap.lt_size hol
 have hneI : l ≠ (s.heap.push (dU (!byT w))).objs.size := by rw [Heap.size_push]; exact Nat.ne_of_lt (Nat.lt_succ_of_lt hlS)
 have hSf : s.heap.objs.size ∉ [(s.heap.push (dU (!byT w))).objs.size, l] := by
  rw [Heap.size_push]
  simp only [List.mem_cons, List.not_mem_nil, or_false, not_or]
  exact ⟨Nat.ne_of_lt (Nat.lt_succ_self _), Nat.ne_of_gt hlS⟩
 refine zK ((Walks.tuple (by simp [hh]) _ l hneI items).toS) s.heap.objs.size hSf key hk hn (items.size - 0) 0 _ (by omega) (Nat.zero_le _) ⟨⟨_, Heap.get?_push_size _ rfl, rfl, rfl⟩, (hl1.push _)⟩ ?_ ?_
 · exact nh (Heap.get?_push_of_some _ hS)
 · intro s' hm hS'
   obtain ⟨h', g', d', tk', os'⟩ := s'
   have eg : g' = s.gens := hm.gens
   have ed : d' = s.drawn := hm.drawn
   have eo : os' = s.os := hm.os
   subst eg; subst ed; subst eo
   show wpAny _ _ _ _ _ _
   refine wpAny_pure ?_
   show wpAny _ _ (ret Value.none) _ _ _
   refine wpAny_pure (hR h' tk' hS' fun b o hb e => ?_)
   have hb1 : b ≠ s.heap.objs.size := Nat.ne_of_lt hb
   have hb2 : b ≠ (s.heap.push (dU (!byT w))).objs.size := by rw [Heap.size_push]; exact Nat.ne_of_lt (Nat.lt_succ_of_lt hb)
   exact hm.heap b o (by simp only [List.mem_cons, List.not_mem_nil, or_false, not_or]; exact ⟨hb1, hb2⟩) (Heap.get?_push_of_some _ (Heap.get?_push_of_some _ e))
theorem call_set_T2 {l : Addr} {items : Array Value} {key : Nat → Str} {Q : Value → Shared → Prop} (hh : A.handled = none) (hl : s.heap.IsTuple l items)
 (hk : ∀ (i : Nat) (v : Value), items[i]? = some v → ∃ tk, v = Value.str (key i) tk) (hn : items.size ≤ 59)
 (h : ∀ (h' : Heap) (tk : Nat), SetS prog w h' s.heap.objs.size (ddk ((List.range items.size).map key)) → (∀ b o, b < s.heap.objs.size → s.heap.get? b = some o → h'.get? b = some o) → Q (.ref s.heap.objs.size) { s with heap := h', toks := tk }) :
 wpAny (model prog w) A (call (.type "set") [.ref l]) Q E s := by
 obtain ⟨c, tl, hmro⟩ := F.called_set.mro
 have hmade := F.called_set.made
 have hsub := F.called_set.sub
 refine wpAny_call (codeAny_of_tree ?_)
 show wpAny _ _ (callAny (.type "set") _) _ _ _
 refine wpAny_pure ⟨Code.quiet_builtin _ (by decide +kernel), codeAny_builtin F.entry_type_call ?_⟩
 rw [Around.under_plain (weight_type_call_type "set" [.ref l] []) rfl]
 have h1 := F.called_set.notType
 have h2 := F.called_set.canCreate
 have hct := F.typeCall_set_1 (.ref l)
 repeat (any_goals (first | assumption | wp_step))
 refine codeAny_mono (qs (.ref l) (E := E) (Q₁ := fun obj s₁ => obj = .ref s.heap.objs.size ∧ s₁ = { s with heap := s.heap.push (dU (!byT w)) }) ⟨rfl, rfl⟩) fun r s₁ hr => ?_
 cases r with
 | error e => exact hr
 | ok fl =>
  cases fl with
  | ret obj =>
   obtain ⟨rfl, rfl⟩ := hr
   have hT : Shared.TypeIs { s with heap := s.heap.push (dU (!byT w)) } (.ref s.heap.objs.size) "set" := ⟨_, Heap.get?_push_size _ rfl, rfl⟩
   have hli := F.called_set.init.lookup
   have hbi := F.called_set.init.bind (.ref s.heap.objs.size)
   repeat (any_goals (first | assumption | wp_step))
   refine codeAny_mono (wb (R := wants (fun r s₂ => r = .none ∧ ∃ h' tk, s₂ = { s with heap := h', toks := tk } ∧ SetS prog w h' s.heap.objs.size (ddk ((List.range items.size).map key)) ∧
    (∀ b o, b < s.heap.objs.size → s.heap.get? b = some o → h'.get? b = some o)) E) (by simp [hh]) hl hk hn fun h' tk q1 q2 => ⟨rfl, h', tk, rfl, q1, q2⟩) fun r₂ s₂ hr₂ => ?_
   cases r₂ with
   | error e => exact hr₂
   | ok fl₂ =>
    cases fl₂ with
    | ret r =>
     obtain ⟨rfl, h', tk, rfl, hS', hk'⟩ := hr₂
     repeat (any_goals (first | assumption | wp_step))
     exact h _ _ hS' hk'
    | _ => exact hr₂.elim
  | _ => exact hr.elim
end
theorem sl_sin : Slot "set_iterator" "__next__" "set_iterator.__next__" :=
 .of (n := "__next__") (owner := "set_iterator") (by rw [typeLookup_type, builtinLookup_eq_fast]; kernel_rfl) (by decide +kernel) (by decide +kernel) (by decide +kernel) (by first | exact .inl (by decide +kernel) | exact .inr (by decide +kernel)) (by rw [isSubtype_type]; kernel_rfl)
theorem ni : entryFor table "set_iterator.__next__" = some Builtin.«set_iterator.__next__» := entryFor_of_tree (by kernel_rfl)
theorem nj (a : Value) : argsOk "set_iterator.__next__" ⟨[a], []⟩ := by unfold argsOk; kernel_rfl
theorem Ci : entryFor table "set.__iter__" = some Builtin.«frozenset.__iter__» :=
 entryFor_alias (id' := "frozenset.__iter__") (by kernel_rfl) rfl (by decide +kernel) (by kernel_rfl)
theorem gu {α : Type} : ∀ (l : List α) (i : Nat) (h : i < l.length), (l[i] :: l.eraseIdx i).Perm l
 | x :: l, 0, _ => .refl _
 | x :: l, i + 1, h => by
  have ih := gu l i (by simpa using h)
  exact (List.Perm.swap ..).trans (ih.cons x)
theorem kz {α : Type} (next : Nat → Nat) : ∀ (n k : Nat) (left : List α) (out : Array α), left.length = n → (pickOrder.go next n k left out).toList.Perm (out.toList ++ left)
 | 0, k, left, out, h => by
  have : left = [] := List.length_eq_zero_iff.mp h
  subst this
  unfold pickOrder.go
  simp
 | n + 1, k, left, out, h => by
  unfold pickOrder.go
  have hlt : next k % left.length < left.length := Nat.mod_lt _ (by omega)
  rw [List.getElem?_eq_getElem hlt]
  dsimp only
  refine (kz next n (k + 1) _ _ (by rw [List.length_eraseIdx_of_lt hlt]; omega)).trans ?_
  rw [Array.toList_push, List.append_assoc]
  exact List.Perm.append_left _ (gu _ _ hlt)
section
variable {prog : Program} {w : World} {A : Around} {E : Value → Shared → Prop}
theorem qt {src : Source} {n : Nat} {s : Shared} {Q : Nat → Shared → Prop} (hn : n ≠ 0) (h : ∀ i d, i < n → Q i { s with drawn := d }) : wpAny (model prog w) A (choose src n) Q E s := fun _ _ _ => ⟨hn, h _ _ (Nat.mod_lt _ (Nat.pos_of_ne_zero hn))⟩
theorem qu {α : Type} : ∀ (n : Nat) (xs : List α) (s : Shared) (Q : List α → Shared → Prop), xs.length = n → (∀ ys d, ys.Perm xs → Q ys { s with drawn := d }) → wpAny (model prog w) A (drawOrder n xs) Q E s
 | 0, xs, s, Q, hl, h => by
  have : xs = [] := List.length_eq_zero_iff.mp hl
  subst this
  unfold drawOrder
  have e : s = { s with drawn := s.drawn } := by cases s; rfl
  refine wpAny_pure ?_
  rw [e]
  exact h [] s.drawn (.refl _)
 | n + 1, [], s, Q, hl, h => by simp at hl
 | n + 1, x :: xs, s, Q, hl, h => by
  unfold drawOrder
  refine wpAny_bind (qt (by simp) fun i d hi => ?_)
  rw [List.getElem?_eq_getElem hi]
  dsimp only
  refine wpAny_bind (qu n ((x :: xs).eraseIdx i) _ _ (by rw [List.length_eraseIdx_of_lt hi]; simp at hl ⊢; omega) fun ys d2 hp => ?_)
  refine wpAny_pure (h _ d2 ?_)
  exact (hp.cons _).trans (gu _ _ hi)
variable {s : Shared}
structure Rd (w : World) (h : Heap) (S : Addr) (es : Array (Int × Value)) (ep : Nat) (t : SetTable) : Prop where
 o : ∃ o, h.get? S = some o ∧ o.ExactSet ∧ o.data = .set es ep t
 f : t.fits es.size = true
 l : t.led = (!byT w)
 p : es.size ≠ 0 → t.plain = false
theorem Rd.moved {h h' : Heap} {S : Addr} {es : Array (Int × Value)} {ep : Nat} {t : SetTable} (r : Rd w h S es ep t) (k : ∀ o, h.get? S = some o → h'.get? S = some o) : Rd w h' S es ep t := by
 obtain ⟨⟨o, ho, hr⟩, h1, h2, h3⟩ := r
 exact ⟨⟨o, k _ ho, hr⟩, h1, h2, h3⟩
abbrev sIt (first : Value) (i : Nat) (S : Addr) (n ep : Nat) : Obj := { cls := .type "set_iterator", dict := none, data := .fields #[first, rawInt i, .ref S, rawInt n, rawInt ep], slots := #[] }
theorem nk (f : Value) (i : Nat) (S : Addr) (n ep : Nat) : sIt f (i + 1) S n ep = { cls := .type "set_iterator", dict := none, data := .fields #[f, .int ((i : Int) + 1) 0, .ref S, .int n 0, .int ep 0], slots := #[] } := by simp [rawInt]
theorem sS {I S : Addr} {es : Array (Int × Value)} {ep i slot : Nat} {t : SetTable} {Q : Option Value → Shared → Prop} (r : Rd w s.heap S es ep t) (hI : s.heap.get? I = some (sIt (rawInt slot) i S es.size ep))
 {x : Value} {nx : Nat} (hN : ∀ (R : Option (Value × Nat) → Shared → Prop) (E' : Value → Shared → Prop), R (some (x, nx)) s → wpAny (model prog w) A.in1 (setNext S slot i ep) R E' s)
 (hQ : ∀ h', h'.get? I = some (sIt (rawInt nx) (i + 1) S es.size ep) → Heap.SameBut I s.heap h' → Q (some x) { s with heap := h' }) : wpAny (model prog w) A (pyNext (.ref I)) Q E s := by
 have ty : s.TypeIs (.ref I) "set_iterator" := ⟨_, hI, rfl⟩
 obtain ⟨o, ho, hex, hd⟩ := r.o
 unfold pyNext
 refine wpAny_bind (wpAny_attempt (wpAny_callSpecial?_slot (name := Str.ofString "__next__") ty sl_sin (wpAny_call_entry sl_sin ty ni ?_ (nj _))))
 unfold Builtin.«set_iterator.__next__»
 refine wpAny_bind (m := slotArgs _ _ _) (wpAny_of_eq (a := (Value.ref I, [])) (by rfl) ?_)
 refine wpAny_bind (wpAny_fieldsOf hI rfl ?_)
 dsimp only [rawInt, Array.toList]
 refine wpAny_bind (wpAny_setEntries_of ho hd r.f ?_)
 rw [if_neg (by simp)]
 refine wpAny_bind (m := pure _) (wpAny_pure ?_)
 dsimp only
 refine wpAny_bind (hN _ _ ?_)
 dsimp only
 refine wpAny_bind (wpAny_setField_rec hI (by simp) fun h1 g1 b1 => ?_)
 refine wpAny_bind (wpAny_setField_rec g1 (by simp) fun h2 g2 b2 => ?_)
 exact wpAny_pure ⟨x, rfl, wpAny_pure (hQ _ (by rw [nk]; simpa [rawInt] using g2) (b1.trans b2))⟩
theorem kA {I S : Addr} {es : Array (Int × Value)} {ep i slot : Nat} {t : SetTable} {Q : Option Value → Shared → Prop} (hh : A.handled = none) (r : Rd w s.heap S es ep t) (hI : s.heap.get? I = some (sIt (rawInt slot) i S es.size ep))
 (hN : ∀ (R : Option (Value × Nat) → Shared → Prop) (E' : Value → Shared → Prop), R none s → wpAny (model prog w) A.in1 (setNext S slot i ep) R E' s)
 (hQ : ∀ h', Heap.ExtBut I s.heap h' → Q none { s with heap := h' }) : wpAny (model prog w) A (pyNext (.ref I)) Q E s := by
 have ty : s.TypeIs (.ref I) "set_iterator" := ⟨_, hI, rfl⟩
 obtain ⟨o, ho, hex, hd⟩ := r.o
 unfold pyNext
 refine wpAny_bind (wpAny_attempt (wpAny_callSpecial?_slot (name := Str.ofString "__next__") ty sl_sin (wpAny_call_entry sl_sin ty ni ?_ (nj _))))
 unfold Builtin.«set_iterator.__next__»
 refine wpAny_bind (m := slotArgs _ _ _) (wpAny_of_eq (a := (Value.ref I, [])) (by rfl) ?_)
 refine wpAny_bind (wpAny_fieldsOf hI rfl ?_)
 dsimp only [rawInt, Array.toList]
 refine wpAny_bind (wpAny_setEntries_of ho hd r.f ?_)
 rw [if_neg (by simp)]
 refine wpAny_bind (m := pure _) (wpAny_pure ?_)
 dsimp only
 refine wpAny_bind (hN _ _ ?_)
 dsimp only
 refine wpAny_bind (wpAny_setField_rec hI (by simp) fun h1 g1 b1 => ?_)
 refine wpAny_bind ?_
 simp only [newExc, newTuple]
 refine wpAny_bind (wpAny_newObj_type ?_ (by size_fits))
 refine wpAny_bind (m := firstArgMember _ _) (wpAny_of_eq (a := Value.none) (by first | rfl | (simp only [firstArgMember]; rfl)) ?_)
 refine wpAny_newObj_type ?_ (by size_fits)
 simp only [raiseNew]
 refine wpAny_bind (wpAny_handled ?_)
 rw [show A.in1.handled = none from hh]
 refine wpAny_bind (wpAny_pure (wpAny_throw ?_))
 refine wpAny_bind (wpAny_isInstance (T := "StopIteration") (b := true) ⟨_, Heap.get?_push_size _ rfl, rfl⟩ isSubtype_stop ?_)
 exact wpAny_pure (hQ _ ((b1.extBut.push _).push _))
theorem sT {I S T : Addr} {es : Array (Int × Value)} {ep i : Nat} {t : SetTable} {pl : Array Value} {Q : Option Value → Shared → Prop} (r : Rd w s.heap S es ep t) (hI : s.heap.get? I = some (sIt (.ref T) i S es.size ep)) (hT : s.heap.IsTuple T pl)
 {k : Nat} {h0 : Int} {x : Value} (hp : pl[i]? = some (rawInt k)) (hk : es[k]? = some (h0, x))
 (hQ : ∀ h', h'.get? I = some (sIt (.ref T) (i + 1) S es.size ep) → Heap.SameBut I s.heap h' → Q (some x) { s with heap := h' }) : wpAny (model prog w) A (pyNext (.ref I)) Q E s := by
 have ty : s.TypeIs (.ref I) "set_iterator" := ⟨_, hI, rfl⟩
 obtain ⟨o, ho, hex, hd⟩ := r.o
 obtain ⟨oT, hoT, _, nT, hdT⟩ := hT
 unfold pyNext
 refine wpAny_bind (wpAny_attempt (wpAny_callSpecial?_slot (name := Str.ofString "__next__") ty sl_sin (wpAny_call_entry sl_sin ty ni ?_ (nj _))))
 unfold Builtin.«set_iterator.__next__»
 refine wpAny_bind (m := slotArgs _ _ _) (wpAny_of_eq (a := (Value.ref I, [])) (by rfl) ?_)
 refine wpAny_bind (wpAny_fieldsOf hI rfl ?_)
 dsimp only [rawInt, Array.toList]
 refine wpAny_bind (wpAny_setEntries_of ho hd r.f ?_)
 rw [if_neg (by simp)]
 refine wpAny_bind (m := pure _) (wpAny_pure ?_)
 dsimp only
 refine wpAny_bind (wpAny_seqItems hoT hdT ?_)
 dsimp only
 rw [Int.toNat_natCast, hp]
 dsimp only [rawInt]
 refine wpAny_bind ?_
 unfold setNextDrawn
 refine wpAny_bind (wpAny_setState_of ho hd r.f ?_)
 dsimp only
 rw [if_neg (by simp)]
 refine wpAny_bind (m := pure _) (wpAny_pure ?_)
 rw [Int.toNat_natCast, hk]
 dsimp only
 refine wpAny_pure ?_
 refine wpAny_bind (wpAny_setField_rec hI (by simp) fun h1 g1 b1 => ?_)
 exact wpAny_pure ⟨x, rfl, wpAny_pure (hQ _ (by rw [nk]; simpa [rawInt] using g1) b1)⟩
theorem kB {I S T : Addr} {es : Array (Int × Value)} {ep i : Nat} {t : SetTable} {pl : Array Value} {Q : Option Value → Shared → Prop} (hh : A.handled = none) (r : Rd w s.heap S es ep t) (hI : s.heap.get? I = some (sIt (.ref T) i S es.size ep)) (hT : s.heap.IsTuple T pl)
 (hp : pl[i]? = none) (hQ : ∀ h', Heap.ExtBut I s.heap h' → Q none { s with heap := h' }) : wpAny (model prog w) A (pyNext (.ref I)) Q E s := by
 have ty : s.TypeIs (.ref I) "set_iterator" := ⟨_, hI, rfl⟩
 obtain ⟨o, ho, hex, hd⟩ := r.o
 obtain ⟨oT, hoT, _, nT, hdT⟩ := hT
 unfold pyNext
 refine wpAny_bind (wpAny_attempt (wpAny_callSpecial?_slot (name := Str.ofString "__next__") ty sl_sin (wpAny_call_entry sl_sin ty ni ?_ (nj _))))
 unfold Builtin.«set_iterator.__next__»
 refine wpAny_bind (m := slotArgs _ _ _) (wpAny_of_eq (a := (Value.ref I, [])) (by rfl) ?_)
 refine wpAny_bind (wpAny_fieldsOf hI rfl ?_)
 dsimp only [rawInt, Array.toList]
 refine wpAny_bind (wpAny_setEntries_of ho hd r.f ?_)
 rw [if_neg (by simp)]
 refine wpAny_bind (m := pure _) (wpAny_pure ?_)
 dsimp only
 refine wpAny_bind (wpAny_seqItems hoT hdT ?_)
 dsimp only
 rw [Int.toNat_natCast, hp]
 dsimp only
 refine wpAny_bind (wpAny_setField_rec hI (by simp) fun h1 g1 b1 => ?_)
 refine wpAny_bind (wpAny_setField_rec g1 (by simp) fun h2 g2 b2 => ?_)
 refine wpAny_bind ?_
 simp only [newExc, newTuple]
 refine wpAny_bind (wpAny_newObj_type ?_ (by size_fits))
 refine wpAny_bind (m := firstArgMember _ _) (wpAny_of_eq (a := Value.none) (by first | rfl | (simp only [firstArgMember]; rfl)) ?_)
 refine wpAny_newObj_type ?_ (by size_fits)
 simp only [raiseNew]
 refine wpAny_bind (wpAny_handled ?_)
 rw [show A.in1.handled = none from hh]
 refine wpAny_bind (wpAny_pure (wpAny_throw ?_))
 refine wpAny_bind (wpAny_isInstance (T := "StopIteration") (b := true) ⟨_, Heap.get?_push_size _ rfl, rfl⟩ isSubtype_stop ?_)
 exact wpAny_pure (hQ _ (((b1.trans b2).extBut.push _).push _))
theorem uD {S : Addr} {es : Array (Int × Value)} {ep i slot : Nat} {t : SetTable} {R : Option (Value × Nat) → Shared → Prop} (r : Rd w s.heap S es ep t) (hb : byT w = true)
 (hR : R (((pickOrder (w.params.setOrder S ep) es)[i]?).map fun e => (e.2, slot)) s) : wpAny (model prog w) A (setNext S slot i ep) R E s := by
 obtain ⟨o, ho, hex, hd⟩ := r.o
 unfold setNext setsByText setWalk setsByText
 refine wpAny_bind (wpAny_setState_of ho hd r.f ?_)
 dsimp only
 refine wpAny_bind (wpAny_bind (wpAny_askSetting (wpAny_pure ?_)))
 dsimp only
 rw [if_pos (show (model prog w).w.params.followText "set-order" = true from hb), if_neg (by simp)]
 refine wpAny_bind (wpAny_bind (wpAny_setState_of ho hd r.f ?_))
 dsimp only
 refine wpAny_bind (wpAny_bind (wpAny_askSetting (wpAny_pure ?_)))
 dsimp only
 rw [if_pos (show (model prog w).w.params.followText "set-order" = true from hb)]
 refine wpAny_bind (wpAny_askSetting (wpAny_pure ?_))
 exact wpAny_pure hR
theorem uE {S : Addr} {es : Array (Int × Value)} {ep i slot : Nat} {t : SetTable} {R : Option (Value × Nat) → Shared → Prop} (r : Rd w s.heap S es ep t) (hb : byT w = false) (hn : es.size ≤ 1)
 (hR : R (match es[SetTable.below t.place slot]?, t.place[SetTable.below t.place slot]? with | some (_, x), some j => some (x, j + 1) | _, _ => none) s) : wpAny (model prog w) A (setNext S slot i ep) R E s := by
 obtain ⟨o, ho, hex, hd⟩ := r.o
 have hl : t.led = true := by rw [r.l, hb]; rfl
 unfold setNext setsByText
 refine wpAny_bind (wpAny_setState_of ho hd r.f ?_)
 dsimp only
 refine wpAny_bind (wpAny_bind (wpAny_askSetting (wpAny_pure ?_)))
 dsimp only
 rw [if_neg (show ¬ ((model prog w).w.params.followText "set-order" = true) from by rw [show (model prog w).w.params.followText "set-order" = false from hb]; simp)]
 split
 · rename_i hc
   have hc' : (!t.plain && decide (es.size > 1)) = true := hc
   simp at hc'
   omega
 · refine wpAny_bind (wpAny_of_eq (a := ()) ?_ (wpAny_pure hR))
   show (if (!t.led && !es.isEmpty) = true then _ else pure ()) = pure ()
   rw [hl]
   rfl
end
theorem uF : Slot "set_iterator" "__iter__" "set_iterator.__iter__" :=
 .of (n := "__iter__") (owner := "set_iterator") (by rw [typeLookup_type, builtinLookup_eq_fast]; kernel_rfl) (by decide +kernel) (by decide +kernel) (by decide +kernel) (by first | exact .inl (by decide +kernel) | exact .inr (by decide +kernel)) (by rw [isSubtype_type]; kernel_rfl)
theorem zL : entryFor table "set_iterator.__iter__" = some Builtin.«dict_keyiterator.__iter__» :=
 entryFor_alias (id' := "dict_keyiterator.__iter__") (by kernel_rfl) (by first | rfl | decide +kernel | (unfold String.splitOn; simp +decide [String.splitOnAux])) (by decide +kernel) (by kernel_rfl)
theorem zM (a : Value) : argsOk "set_iterator.__iter__" ⟨[a], []⟩ := by unfold argsOk; kernel_rfl
theorem qv {α : Type} {xs : Array α} (h : xs.size = 1) : ∃ a, xs = #[a] := by
 obtain ⟨l⟩ := xs
 match l, h with
 | [a], _ => exact ⟨a, rfl⟩
section
variable {prog : Program} {w : World} {A : Around} {E : Value → Shared → Prop} {s : Shared}
theorem kG {I : Addr} {Q : Value → Shared → Prop} (hT : s.TypeIs (.ref I) "set_iterator") (h : Q (.ref I) s) : wpAny (model prog w) A (pyIter (.ref I)) Q E s := by
 refine wpAny_pyIter_slot hT uF (wpAny_call_entry uF hT zL ?_ (zM _))
 show wpAny _ _ (ret (.ref I)) _ _ s
 exact wpAny_pure ⟨_, rfl, "set_iterator", _, hT, sl_sin.lookup, h⟩
theorem kH (hh : A.handled = none) (I S : Addr) (hne : S ≠ I) (es : Array (Int × Value)) (ep : Nat) (t : SetTable) (vs : List Value) (sl : Nat → Nat) (hl : vs.length = es.size)
 (hN : ∀ (i : Nat) (v : Value) (s : Shared) (R : Option (Value × Nat) → Shared → Prop) (E' : Value → Shared → Prop), Rd w s.heap S es ep t → vs[i]? = some v → R (some (v, sl (i + 1))) s → wpAny (model prog w) A.in1 (setNext S (sl i) i ep) R E' s)
 (hE : ∀ (s : Shared) (R : Option (Value × Nat) → Shared → Prop) (E' : Value → Shared → Prop), Rd w s.heap S es ep t → R none s → wpAny (model prog w) A.in1 (setNext S (sl vs.length) vs.length ep) R E' s) :
 Walks prog w A I [I, S] [I] vs.length (fun i v => vs[i]? = some v) (fun i h => h.get? I = some (sIt (rawInt (sl i)) i S es.size ep) ∧ Rd w h S es ep t) where
 sub := fun b hb => by simp at hb; simp [hb]
 frame := fun _ _ _ st hk => ⟨hk I (by simp) _ st.1, st.2.moved fun o e => hk S (by simp) o e⟩
 item := fun i s Q E hi st hQ => by
  have hv : vs[i]? = some vs[i] := by simp [hi]
  refine sS st.2 st.1 (x := vs[i]) (nx := sl (i + 1)) (fun R E' hR => hN i _ s R E' st.2 hv hR) fun h' g b => ?_
  exact hQ _ h' s.toks hv ⟨g, st.2.moved fun o e => b.extBut S o hne e⟩ fun b' o hb e => b.extBut b' o (fun h => hb (by simp [h])) e
 done := fun s Q E st hQ => kA hh st.2 st.1 (fun R E' hR => hE s R E' st.2 hR) fun h' he' => hQ h' s.toks fun b o hb e => he' b o (fun h => hb (by simp [h])) e
 self := fun _ _ _ _ st hQ => kG ⟨_, st.1, rfl⟩ hQ
theorem qw (hh : A.handled = none) (I S T : Addr) (hne : S ≠ I) (hT : T ≠ I) (es : Array (Int × Value)) (ep : Nat) (t : SetTable) (ks : List Nat) (vs : List Value) (hl : vs.length = ks.length)
 (hk : ∀ (i : Nat) (k : Nat) (v : Value), ks[i]? = some k → vs[i]? = some v → ∃ h0, es[k]? = some (h0, v)) :
 Walks prog w A I [I, S, T] [I] vs.length (fun i v => vs[i]? = some v) (fun i h => h.get? I = some (sIt (.ref T) i S es.size ep) ∧ Rd w h S es ep t ∧ h.IsTuple T (ks.map fun (i : Nat) => rawInt i).toArray) where
 sub := fun b hb => by simp at hb; simp [hb]
 frame := fun _ _ _ st hk => ⟨hk I (by simp) _ st.1, st.2.1.moved fun o e => hk S (by simp) o e, st.2.2.at fun o e => hk T (by simp) o e⟩
 item := fun i s Q E hi st hQ => by
  have hv : vs[i]? = some vs[i] := by simp [hi]
  have hki : ks[i]? = some (ks[i]'(by omega)) := by simp [show i < ks.length by omega]
  obtain ⟨h0, e0⟩ := hk i _ _ hki hv
  refine sT st.2.1 st.1 st.2.2 (x := vs[i]) (k := ks[i]'(by omega)) (h0 := h0) (by simp [show i < ks.length by omega]) e0 fun h' g b => ?_
  exact hQ _ h' s.toks hv ⟨g, st.2.1.moved fun o e => b.extBut S o hne e, st.2.2.extBut b.extBut hT⟩ fun b' o hb e => b.extBut b' o (fun h => hb (by simp [h])) e
 done := fun s Q E st hQ => kB hh st.2.1 st.1 st.2.2 (by simp [hl]) fun h' he' => hQ h' s.toks fun b o hb e => he' b o (fun h => hb (by simp [h])) e
 self := fun _ _ _ _ st hQ => kG ⟨_, st.1, rfl⟩ hQ
structure Wk (prog : Program) (w : World) (S I : Addr) (h : Heap) (h' : Heap) (es : Array (Int × Value)) (vs : List Value) (fp : List Addr) (St : Nat → Heap → Prop) : Prop where
 W : ∀ A : Around, A.handled = none → Walks prog w A I fp [I] vs.length (fun i v => vs[i]? = some v) St
 st : St 0 h'
 pm : vs.Perm (es.toList.map (·.2))
 up : ∀ b o, h.get? b = some o → h'.get? b = some o
 nw : h.objs.size ≤ I
 fp : ∀ b ∈ fp, (b = S ∨ h.objs.size ≤ b) ∧ b < h'.objs.size
theorem sU {S : Addr} {es : Array (Int × Value)} {ep : Nat} {t : SetTable} {Q : Value → Shared → Prop} (r : Rd w s.heap S es ep t) (hn60 : es.size ≤ 60)
 (hQ : ∀ (I : Addr) (h' : Heap) (d : Drawn) (vs : List Value) (fp : List Addr) (St : Nat → Heap → Prop), Wk prog w S I s.heap h' es vs fp St → Q (.ref I) { s with heap := h', drawn := d }) : wpAny (model prog w) A (pyIter (.ref S)) Q E s := by
 obtain ⟨o, ho, hex, hd⟩ := id r.o
 have hT : s.TypeIs (.ref S) "set" := ⟨o, ho, hex.1⟩
 have hS : S < s.heap.objs.size := Heap.lt_size ho
 have hsz : t.place.size = es.size := by have := r.f; unfold SetTable.fits at this; simp at this; exact this.1
 refine wpAny_pyIter_slot hT F.slot_set_iter (wpAny_call_entry F.slot_set_iter hT Ci ?_ (F.args_set_iter_1 _))
 unfold Builtin.«frozenset.__iter__»
 refine wpAny_bind (m := Builtin.Frozenset.slot0 _ _) (wpAny_of_eq (a := S) (by rfl) ?_)
 refine wpAny_bind ?_
 unfold Builtin.Frozenset.sizeOf
 refine wpAny_bind (wpAny_setEntries_of ho hd r.f (wpAny_pure ?_))
 refine wpAny_bind ?_
 unfold setDrawn setsByText
 refine wpAny_bind (wpAny_setState_of ho hd r.f ?_)
 dsimp only
 refine wpAny_bind (wpAny_bind (wpAny_askSetting (wpAny_pure (wpAny_pure ?_))))
 dsimp only
 split
 · rename_i hc
   have hc' : (!byT w && (!t.plain && decide (es.size > 1))) = true := hc
   simp at hc'
   refine wpAny_bind (qu _ _ _ _ (by simp) fun ks d hp => ?_)
   have z : ks.length ≤ sizeLine := by
    have h1 := hp.length_eq
    rw [List.length_range] at h1
    have : sizeLine = 16777216 := by decide
    omega
   unfold newTuple
   refine wpAny_bind (wpAny_newObj_type ?_ (by simpa [sizeOk] using z))
   have ho1 : (s.heap.push { cls := .type "tuple", data := .seq (ks.map fun (i : Nat) => rawInt i).toArray }).get? S = some o := Heap.get?_push_of_some _ ho
   refine wpAny_bind ?_
   unfold setEpoch
   refine wpAny_bind (wpAny_setState_of ho1 hd r.f (wpAny_pure ?_))
   refine wpAny_bind (wpAny_newObj_type (wpAny_pure ⟨_, rfl, "set_iterator", _, ⟨_, Heap.get?_push_size _ rfl, rfl⟩, sl_sin.lookup, ?_⟩))
   have hlt : ∀ k ∈ ks, k < es.size := fun k hk => by simpa using hp.mem_iff.mp hk
   refine hQ _ _ d (ks.map fun k => (es.toList.map (·.2)).getD k .none) [(s.heap.push { cls := .type "tuple", data := .seq (ks.map fun (i : Nat) => rawInt i).toArray }).objs.size, S, s.heap.objs.size] _
    ⟨fun A' h' => qw h' _ S s.heap.objs.size (by rw [Heap.size_push]; exact Nat.ne_of_lt (Nat.lt_succ_of_lt hS)) (by rw [Heap.size_push]; exact Nat.ne_of_lt (Nat.lt_succ_self _)) es ep t ks _ (by simp) (fun i k v e1 e2 => ?_), ⟨Heap.get?_push_size _ rfl, r.moved (fun o' e => Heap.get?_push_of_some _ (Heap.get?_push_of_some _ e)), ?_⟩, ?_, fun b o' e => Heap.get?_push_of_some _ (Heap.get?_push_of_some _ e), by rw [Heap.size_push]; exact Nat.le_succ _, ?_⟩
   · have hk := hlt k (List.mem_of_getElem? e1)
     simp [e1] at e2
     refine ⟨es[k].1, ?_⟩
     rw [← e2]
     simp [hk]
   · exact ⟨_, Heap.get?_push_of_some _ (Heap.get?_push_size _ rfl), rfl, 0, rfl⟩
   · have e : (List.range es.size).map (fun k => (es.toList.map (·.2)).getD k .none) = es.toList.map (·.2) := FD.range_getD _ _ _ (by simp)
     exact (hp.map _).trans (by rw [e])
   · intro b hb
     rw [Heap.size_push, Heap.size_push]
     rw [Heap.size_push] at hb
     simp only [List.mem_cons, List.not_mem_nil, or_false] at hb
     rcases hb with hb | hb | hb
     · subst hb
       exact ⟨.inr (Nat.le_succ _), Nat.lt_succ_self _⟩
     · subst hb
       exact ⟨.inl rfl, Nat.lt_succ_of_lt (Nat.lt_succ_of_lt hS)⟩
     · subst hb
       exact ⟨.inr (Nat.le_refl _), Nat.lt_succ_of_lt (Nat.lt_succ_self _)⟩
 · rename_i hc
   have hc' : ¬ ((!byT w && (!t.plain && decide (es.size > 1))) = true) := hc
   refine wpAny_bind (wpAny_pure ?_)
   refine wpAny_bind ?_
   unfold setEpoch
   refine wpAny_bind (wpAny_setState_of ho hd r.f (wpAny_pure ?_))
   refine wpAny_bind (wpAny_newObj_type (wpAny_pure ⟨_, rfl, "set_iterator", _, ⟨_, Heap.get?_push_size _ rfl, rfl⟩, sl_sin.lookup, ?_⟩))
   have fin : ∀ (vs : List Value) (sl : Nat → Nat), sl 0 = 0 → vs.Perm (es.toList.map (·.2)) → (∀ A : Around, A.handled = none → Walks prog w A s.heap.objs.size [s.heap.objs.size, S] [s.heap.objs.size] vs.length (fun i v => vs[i]? = some v) (fun i h => h.get? s.heap.objs.size = some (sIt (rawInt (sl i)) i S es.size ep) ∧ Rd w h S es ep t)) →
    Q (.ref s.heap.objs.size) { s with heap := s.heap.push (sIt (rawInt 0) 0 S es.size ep) } := by
    intro vs sl h0 hp hW
    have e : ({ s with heap := s.heap.push (sIt (rawInt 0) 0 S es.size ep) } : Shared) = { s with heap := s.heap.push (sIt (rawInt 0) 0 S es.size ep), drawn := s.drawn } := rfl
    rw [e]
    refine hQ _ _ s.drawn vs _ _ ⟨hW, ⟨by rw [h0]; exact Heap.get?_push_size _ rfl, r.moved (fun o' e => Heap.get?_push_of_some _ e)⟩, hp, fun b o' e => Heap.get?_push_of_some _ e, Nat.le_refl _, fun b hb => ?_⟩
    rw [Heap.size_push]
    simp only [List.mem_cons, List.not_mem_nil, or_false] at hb
    rcases hb with hb | hb
    · subst hb
      exact ⟨.inr (Nat.le_refl _), Nat.lt_succ_self _⟩
    · subst hb
      exact ⟨.inl rfl, Nat.lt_succ_of_lt hS⟩
   by_cases hb : byT w = true
   · have hpm : (pickOrder (w.params.setOrder S ep) es).toList.Perm es.toList := by
      have := kz (w.params.setOrder S ep) es.size 0 es.toList #[] (by simp)
      simpa [pickOrder] using this
     have hlen : (pickOrder (w.params.setOrder S ep) es).size = es.size := by simpa using hpm.length_eq
     refine fin ((pickOrder (w.params.setOrder S ep) es).toList.map (·.2)) (fun _ => 0) rfl (hpm.map _) fun A' h' => kH h' _ S (Nat.ne_of_lt hS) es ep t _ _ (by simp [hlen]) (fun i v s1 R E' r1 e1 hR => uD r1 hb ?_) (fun s1 R E' r1 hR => uD r1 hb ?_)
     · simp at e1
       obtain ⟨a, e1⟩ := e1
       rw [e1]
       exact hR
     · rw [show (pickOrder (w.params.setOrder S ep) es)[(List.map (·.2) (pickOrder (w.params.setOrder S ep) es).toList).length]? = none by simp]
       exact hR
   · have hb' : byT w = false := by simpa using hb
     have hn1 : es.size ≤ 1 := by
      rw [hb'] at hc'
      by_cases z : es.size = 0
      · omega
      · rw [r.p z] at hc'
        simp at hc'
        exact hc'
     refine fin (es.toList.map (·.2)) (fun i => if i = 0 then 0 else t.place.getD 0 0 + 1) rfl (.refl _) fun A' h' => kH h' _ S (Nat.ne_of_lt hS) es ep t _ _ (by simp) (fun i v s1 R E' r1 e1 hR => uE r1 hb' hn1 ?_) (fun s1 R E' r1 hR => uE r1 hb' hn1 ?_)
     · have hi : i = 0 := by
        have := List.getElem?_eq_some_iff.mp e1
        obtain ⟨q, _⟩ := this
        simp at q
        omega
       subst hi
       obtain ⟨a, ea⟩ : ∃ a, es = #[a] := by
        obtain ⟨l⟩ := es
        have := (List.getElem?_eq_some_iff.mp e1).1
        match l, this, hn1 with
        | [a], _, _ => exact ⟨a, rfl⟩
        | _ :: _ :: _, _, h => simp at h
       subst ea
       obtain ⟨j, ej⟩ : ∃ j, t.place = #[j] := qv hsz
       simp at e1
       subst e1
       rw [ej] at hR ⊢
       simpa [below, below.go] using hR
     · by_cases z : es.size = 0
       · have e0 : es = #[] := Array.eq_empty_of_size_eq_zero z
         subst e0
         simpa using hR
       · obtain ⟨a, ea⟩ := qv (xs := es) (by omega : es.size = 1)
         subst ea
         obtain ⟨j, ej⟩ : ∃ j, t.place = #[j] := qv hsz
         rw [ej]
         simpa [below, below.go] using hR
end
section
variable {prog : Program} {w : World} {A : Around} {E : Value → Shared → Prop} {s : Shared}
theorem lI {S : Addr} {es : Array (Int × Value)} {ep : Nat} {t : SetTable} {Q : List Value → Shared → Prop} (hh : A.handled = none) (r : Rd w s.heap S es ep t) (hn60 : es.size ≤ 60)
 (hQ : ∀ (h' : Heap) (d : Drawn) (tk : Nat) (vs : List Value), vs.Perm (es.toList.map (·.2)) → s.heap.objs.size < h'.objs.size → (∀ b o, s.heap.get? b = some o → h'.get? b = some o) → Q vs { s with heap := h', drawn := d, toks := tk }) : wpAny (model prog w) A (collect (.ref S)) Q E s := by
 obtain ⟨o, ho, hex, hd⟩ := id r.o
 have hS : S < s.heap.objs.size := Heap.lt_size ho
 unfold collect
 refine wpAny_bind (wpAny_runValue (codeAny_builtin F.entry_proto_collect ?_))
 rw [Around.under_plainId F.plain_proto_collect _]
 show wpAny _ A.in1 (newList [] >>= fun l => again (.builtin "list.__iadd__" ⟨[l, .ref S], []⟩)) _ _ s
 refine wpAny_bind (wpAny_newObj_type ?_)
 refine wpAny_pure ⟨plainId_quiet F.plain_list_iadd _, codeAny_builtin F.entry_list_iadd ?_⟩
 rw [Around.under_plainId F.plain_list_iadd _]
 show wpAny _ A.in1 (Builtin.List.listExtendWith (.ref s.heap.objs.size) (.ref S) (.ref s.heap.objs.size)) _ _ _
 unfold Builtin.List.listExtendWith
 generalize hH : s.heap.push { cls := .type "list", data := .seq ([] : List Value).toArray } = H
 have hHs : H.objs.size = s.heap.objs.size + 1 := by rw [← hH, Heap.size_push]
 have up0 : ∀ b ob, s.heap.get? b = some ob → H.get? b = some ob := fun b ob e => hH ▸ Heap.get?_push_of_some _ e
 have hL : H.get? s.heap.objs.size = some { cls := .type "list", data := .seq ([] : List Value).toArray } := hH ▸ Heap.get?_push_size _ rfl
 have ty : Shared.TypeIs { s with heap := H } (.ref S) "set" := ⟨o, up0 _ _ ho, hex.1⟩
 refine wpAny_bind (wpAny_typeOf (T := "set") ty ?_)
 have h1 : Builtin.List.listSameRef (.ref s.heap.objs.size) (.ref S) = false := by simp [Builtin.List.listSameRef]; exact (Nat.ne_of_lt hS).symm
 have h2 : (Value.type "set" == Value.type "list") = false := by decide
 have h3 : (Value.type "set" == Value.type "tuple") = false := by decide
 simp only [h1, h2, h3, Bool.or_false, Bool.false_eq_true, if_false]
 refine wpAny_bind (sU (s := { s with heap := H }) (r.moved fun o e => up0 _ _ e) hn60 fun I h' d vs fp St K => ?_)
 have ty' : Shared.TypeIs { s with heap := h', drawn := d } (.ref S) "set" := ⟨o, K.up _ _ (up0 _ _ ho), hex.1⟩
 refine wpAny_bind (wpAny_holding ?_)
 unfold Builtin.List.listLengthHint
 refine wpAny_bind (wpAny_specialOf ty' F.slot_set_len.lookup ?_)
 wp_delta
 refine wpAny_bind (wpAny_isInstance (T := "set") (b := true) ty' (by rw [isSubtype_type]; kernel_rfl) ?_)
 show wpAny _ A.in1 (typeOf (Value.ref S) >>= _) _ _ _
 refine wpAny_bind (wpAny_typeOf (T := "set") ty' ?_)
 refine wpAny_pure ?_
 show wpAny _ A.in1 (rule "list.extend.makes-room" >>= fun _ => Builtin.List.listTouch (.ref s.heap.objs.size) >>= fun _ =>
  again (.builtin "list.extend.loop" ⟨[.ref s.heap.objs.size, .ref I, .ref s.heap.objs.size], []⟩)) _ _ _
 refine wpAny_bind (wpAny_rule ?_)
 have hS1 : h'.get? s.heap.objs.size = some { cls := .type "list", data := .seq ([] : List Value).toArray } := K.up _ _ hL
 refine wpAny_bind ?_
 show wpAny _ A.in1 (updateSeq s.heap.objs.size (·.push .none) >>= fun _ => updateSeq s.heap.objs.size (·.pop)) _ _ _
 refine wpAny_bind (wpAny_updateSeq hS1 rfl ?_)
 have hS2 := Heap.get?_update_self (Obj.mapSeq (·.push Value.none)) hS1 rfl
 refine wpAny_updateSeq hS2 rfl ?_
 have hS3 := Heap.get?_update_self (Obj.mapSeq (·.pop)) hS2 rfl
 have oth : ∀ b ob, b ≠ s.heap.objs.size → h'.get? b = some ob → ((h'.update s.heap.objs.size (Obj.mapSeq (·.push Value.none))).update s.heap.objs.size (Obj.mapSeq (·.pop))).get? b = some ob :=
  fun b ob hb e => (Heap.get?_update_other _ _ (Ne.symm hb)).trans ((Heap.get?_update_other _ _ (Ne.symm hb)).trans e)
 have hSf : s.heap.objs.size ∉ fp := fun hm => by
  rcases (K.fp _ hm).1 with e | e
  · exact absurd e (Nat.ne_of_lt hS).symm
  · rw [hHs] at e
    exact absurd e (Nat.not_le.mpr (Nat.lt_succ_self _))
 have W := K.W A.in1 hh
 have hvn : vs.length ≤ sizeLine := by
  have h1 := K.pm.length_eq
  simp at h1
  have : sizeLine = 16777216 := by decide
  omega
 refine wpAny_pure ⟨plainId_quiet F.plain_extend_loop _, codeAny_extend_loopS W.toS hvn _ hSf _ vs.length 0 _ _ _ rfl (Nat.zero_le _)
  (W.frame 0 h' _ K.st fun b hb ob e => oth b ob (fun h => hSf (h ▸ hb)) e) hS3 (ItemsOf.nil _) fun s' acc' c' hm hS' hacc => ?_⟩
 show wpAny _ A (load s.heap.objs.size >>= _) _ _ s'
 refine wpAny_bind (wpAny_load hS' ?_)
 have eacc : acc'.toList = vs := by
  apply List.ext_getElem
  · simpa using hacc.1
  · intro i h1 h2
    have : vs[i]? = some acc'[i] := hacc.2 i acc'[i] (by simp)
    rw [List.getElem?_eq_getElem h2] at this
    simpa using this.symm
 show wpAny _ A (pure acc'.toList) _ _ s'
 rw [eacc]
 obtain ⟨h2', g', d', tk', os'⟩ := s'
 have eg : g' = s.gens := hm.gens
 have ed : d' = d := hm.drawn
 have eo : os' = s.os := hm.os
 subst eg; subst ed; subst eo
 refine wpAny_pure (hQ h2' d' tk' vs K.pm (Heap.lt_size hS') fun b ob e => hm.heap b ob (fun hb => ?_) (oth b ob (Nat.ne_of_lt (Heap.lt_size e)) (K.up _ _ (up0 _ _ e))))
 have hlt := Heap.lt_size e
 rcases List.mem_cons.mp hb with h | h
 · exact absurd hlt (h ▸ Nat.lt_irrefl _)
 · rw [List.mem_singleton.mp h] at hlt
   have := K.nw
   rw [hHs] at this
   exact absurd (Nat.lt_trans hlt this) (Nat.lt_irrefl _)
theorem SetS.rd {h : Heap} {S : Addr} {ks : List Str} (x : SetS prog w h S ks) : ∃ es ep t, Rd w h S es ep t ∧ es.size ≤ 60 ∧ (∀ e ∈ es.toList, ∃ x t, e.2 = .str x t) ∧ (es.toList.map fun e => strOf e.2).Perm ks := by
 obtain ⟨o, es, ep, t, ho, hex, hd, hf, hk, hl, hp, hel, hs, hm⟩ := x
 refine ⟨es, ep, t, ⟨⟨o, ho, hex, hd⟩, hf, hl, hp⟩, ?_, hs, hm⟩
 have := hm.length_eq
 simp at this
 omega
theorem qz : ∀ {vs : List Value}, (∀ v ∈ vs, ∃ x t, v = .str x t) → StrsAre vs (vs.map strOf)
 | [], _ => .nil
 | v :: vs, h => by
  obtain ⟨x, t, rfl⟩ := h v List.mem_cons_self
  exact .cons x t (qz fun v hv => h v (List.mem_cons_of_mem _ hv))
theorem sorted_set {S : Addr} {ks : List Str} {Q : Value → Shared → Prop} (hh : A.handled = none) (x : SetS prog w s.heap S ks)
 (h : ∀ (l : Addr) (h' : Heap) (d : Drawn) (tk : Nat) (out : List Value) (e : Nat), StrsAre out (FD.isortB FD.leS ks) → h'.get? l = some (seqObj "list" out.toArray e) → s.heap.objs.size ≤ l → (∀ b o, s.heap.get? b = some o → h'.get? b = some o) → Q (.ref l) { s with heap := h', drawn := d, toks := tk }) :
 wpAny (model prog w) A (call (.builtin "sorted") [.ref S]) Q E s := by
 obtain ⟨es, ep, t, r, h60, hs, hm⟩ := x.rd
 refine Calls.call_function_entry kind_sorted plain_sorted entry_sorted (args_sorted1 _) ?_
 unfold Builtin.«sorted»
 refine wpAny_bind (m := checkCount "sorted" 1 1 _) (wpAny_pure ?_)
 refine wpAny_bind (lI hh r h60 fun h1 d tk vs hp hgr up => ?_)
 have hvs : ∀ v ∈ vs, ∃ x t, v = Value.str x t := fun v hv => by
  obtain ⟨e, he, rfl⟩ := List.mem_map.mp (hp.mem_iff.mp hv)
  exact hs e he
 have hS := qz hvs
 have hlen : vs.length < 64 := by
  have := hp.length_eq
  simp at this
  omega
 have hpk : (vs.map strOf).Perm ks := by
  have := hp.map strOf
  rw [List.map_map] at this
  exact this.trans hm
 refine wpAny_bind (wpAny_newList ?_ (FD.line64 hlen))
 have hoL : (h1.push (seqObj "list" vs.toArray 0)).get? h1.objs.size = some (seqObj "list" vs.toArray 0) := Heap.get?_push_size _ rfl
 refine wpAny_bind (wpAny_holding (wpAny_call_entry slot_list_sort ⟨_, hoL, rfl⟩ entry_list_sort (list_sort_treeK strKind_oneLt hoL hS.keysOf (fun v₁ v₂ rest e => keyKind_strs (by rw [← e]; exact hS)) hlen fun st' hp' hs' => ⟨_, rfl, ?_⟩) (args_list_sort _)))
 obtain ⟨ss', a1, a2, a3⟩ := sorted_out_str hS hp' hs'
 have es' : ss' = FD.isortB FD.leS ks := FD.sorted_uniq FD.ordS ((a2.trans hpk).trans (FD.isortB_perm FD.leS ks).symm) (FD.sortedS_pw _ a3) (FD.isortB_sorted FD.ordS ks)
 subst es'
 obtain ⟨e, he⟩ := sortedHeap_at (out := (arrOf st').map (·.2)) hoL
 refine wpAny_pure ⟨_, rfl, h _ _ d tk _ e a1 (by rw [Array.toArray_toList]; exact he) (Nat.le_of_lt hgr) fun b ob q => ?_⟩
 · have q1 := up _ _ q
   have hlt := Heap.lt_size q1
   rw [sortedHeap_old (Nat.ne_of_lt hlt) (by rw [Heap.size_push]; exact Nat.lt_succ_of_lt hlt), Heap.get?_push_ne _ _ _ (Nat.ne_of_lt hlt)]
   exact q1
end
end ST
namespace FD
open PySem PySem.Spec PyProof.Rows L2
def gw : List Dv → Option (Rs Dv)
 | [.lst ds] => match cU ds with
  | some ks => if ks.length ≤ 59 then some (.ok (.lst ((isortB leS (ST.ddk ks)).map Dv.str))) else none
  | none => none
 | [.tup ds] => match cU ds with
  | some ks => if ks.length ≤ 59 then some (.ok (.lst ((isortB leS (ST.ddk ks)).map Dv.str))) else none
  | none => none
 | _ => none
theorem qA {X : Cx} {pins : List (Addr × Obj)} {σ : List (Option V)} {H : Hp} {s : Shared} (I : Inv X pins σ H s) (d : Drawn) : Inv X pins σ H { s with drawn := d } := ⟨I.ok, I.os, I.bare, I.base, I.loc, I.cell, I.free, I.freeC, I.pin, I.hok, I.len⟩
theorem jD : ∀ {vs : List Value} {ss : List Str}, StrsAre vs ss → vs.length = ss.length ∧ ∀ (i : Nat) (v : Value), vs[i]? = some v → ∃ tk, v = Value.str (ss.getD i "") tk
 | _, _, .nil => ⟨rfl, fun i v h => by simp at h⟩
 | _, _, .cons x t h => by
  obtain ⟨h1, h2⟩ := jD h
  refine ⟨by simp [h1], fun i v e => ?_⟩
  cases i with
  | zero => simp at e; exact ⟨t, by simp [← e]⟩
  | succ i => obtain ⟨tk, q⟩ := h2 i v (by simpa using e); exact ⟨tk, by simpa using q⟩
section
variable {X : Cx} {p p2 pos pos2 : Pos} {e : Expr} {ga : FnA}
theorem oi (hc : X.calm = true) (hg : Gl X "sorted") (hm : X.mg "sorted" = none) (hg2 : Gl X "set") (hm2 : X.mg "set" = none) (ha : FA X [e] ga)
 (he : starEach [.Call (.Name "set" p2) [e] [] pos2] X.env = (false, eval (.Call (.Name "set" p2) [e] [] pos2) X.env) :: starEach [] X.env := by kernel_rfl) (hpl : (backTo pos (starEach [] X.env)).any (·.1) = false := by kernel_rfl)
 (he2 : starEach [e] X.env = (false, eval e X.env) :: starEach [] X.env := by kernel_rfl) (hpl2 : (backTo pos2 (starEach [] X.env)).any (·.1) = false := by kernel_rfl) :
 FE X (.Call (.Name "sorted" p) [.Call (.Name "set" p2) [e] [] pos2] [] pos) (fB1 gw ga) := ⟨fun pins s σ H Q I ⟨ρ, E, o⟩ => by
 refine wpAny_Call_Name_kw (eW I hg hm (u := .builtin "sorted") (by decide +kernel) ?_ (by decide) (by decide))
 refine PyProof.Rows.callWith_builtin1 ?_ he hpl
 rw [he]
 show wpAny _ _ (spliced ((false, eval (.Call (.Name "set" p2) [e] [] pos2) X.env) :: backTo pos (starEach [] X.env))) _ _ s
 refine Calls.spliced_cons ?_
 refine wpAny_Call_Name_kw (eW I hg2 hm2 (u := .type "set") (by decide +kernel) ?_ (by decide) (by decide))
 refine PyProof.Rows.callWith_type1 (thn (ha.h pos2 pins s σ H _ I ⟨ρ, E, OutA.bind o fun ds vs H1 e1 rs o1 => (show ∃ ds, Reps X.K H1 ds vs ∧ Out X H1 (gw ds) Q from ⟨ds, rs, o1⟩)⟩) fun us s1 ⟨vs, H1, I1, r1, ds, rs, o1⟩ => ?_) he2 hpl2
 have fin : ∀ (ks : List Str) (h' : Heap) (tk : Nat), ks.length ≤ 59 → Out X H1 (some (.ok (.lst ((isortB leS (ST.ddk ks)).map Dv.str)))) Q → ST.SetS X.prog X.w h' s1.heap.objs.size (ST.ddk ks) → (∀ b o, b < s1.heap.objs.size → s1.heap.get? b = some o → h'.get? b = some o) → wpAny (model X.prog X.w) X.A (call (.builtin "sorted") [.ref s1.heap.objs.size]) (EP X pins σ Q) X.xe { s1 with heap := h', toks := tk } := by
  intro ks h' tk hk o1 hS hkp
  refine ST.sorted_set (I1.ok.hd hc) hS fun l h2 d tk2 out e0 a1 a2 a3 a4 => ?_
  have hlt : s1.heap.objs.size ≤ l := by
   obtain ⟨_, _, _, _, q, _⟩ := hS
   exact Nat.le_of_lt (Nat.lt_of_lt_of_le (Heap.lt_size q) a3)
  refine ⟨.ref l, _, qA (I1.laid (h' := h2) (t' := tk2) (o := .lst ((isortB leS (ST.ddk ks)).map V.str)) (fun b ob q => a4 _ _ (hkp b ob (Heap.lt_size q) q)) hlt ?_) d, rfl, o1 _ _ (aF (I1.hok.fresh hlt) _) ⟨l, _, rfl, av, gr _ _⟩⟩
  exact ⟨line64 (by rw [List.length_map, (isortB_perm leS _).length_eq]; have := ST.ddk_le ks; omega), out, e0, gq a1, by simpa [seqObj] using a2⟩
 unfold gw at o1
 split at o1
 · rename_i es
   obtain ⟨v, rfl, r⟩ := da rs
   obtain ⟨l, xs, rfl, hl, rx⟩ := r.lstE
   obtain ⟨u, rfl, ru⟩ := dQ r1
   cases (show u = Value.ref l from ru)
   split at o1
   · rename_i ks hks
     split at o1
     · rename_i hnd
       obtain ⟨z, its, n, rv, hz, eh⟩ := I1.lstM hl
       obtain ⟨q1, q2⟩ := jD (gY hks rx rv)
       have hsz : its.toArray.size = ks.length := by simp [q1]
       refine ST.call_set_L2 (items := its.toArray) (key := fun i => ks.getD i "") (I1.ok.hd hc) ⟨_, eh, rfl, n, rfl⟩ (fun i v hi => q2 i v (by simpa using hi)) (by rw [hsz]; exact hnd) fun h' tk hS hkp => ?_
       refine Calls.spliced_nil ?_
       rw [range_getD ks "" _ hsz] at hS
       exact fin ks h' tk hnd o1 hS hkp
     · exact o1.elim
   · exact o1.elim
 · rename_i es
   obtain ⟨v, rfl, r⟩ := da rs
   obtain ⟨l, xs, rfl, hl, rx⟩ := r.tupE
   obtain ⟨u, rfl, ru⟩ := dQ r1
   cases (show u = Value.ref l from ru)
   split at o1
   · rename_i ks hks
     split at o1
     · rename_i hnd
       obtain ⟨its, rv, pl, hz⟩ := I1.tuple (SqT.of hl)
       obtain ⟨q1, q2⟩ := jD (gY hks rx rv)
       have hsz : its.toArray.size = ks.length := by simp [q1]
       refine ST.call_set_T2 (items := its.toArray) (key := fun i => ks.getD i "") (I1.ok.hd hc) pl (fun i v hi => q2 i v (by simpa using hi)) (by rw [hsz]; exact hnd) fun h' tk hS hkp => ?_
       refine Calls.spliced_nil ?_
       rw [range_getD ks "" _ hsz] at hS
       exact fin ks h' tk hnd o1 hS hkp
     · exact o1.elim
   · exact o1.elim
 · exact o1.elim⟩
end
def xA (i : Nat) (f : FnS) : gX := fun ρ ds => match f (ρ.set i (some (.lst ds))) with
 | some (.rt d) => some (.rt d)
 | _ => none
theorem wc {X : Cx} {i : Nat} {sts : List Stmt} {f : FnS} (h : FSs X sts f) : FOs X i sts (xA i f) := ⟨fun pins s σ Hf D I ⟨H, a, xs, ρ, ds, e1, ha', hia, E, r, o⟩ => by
 subst e1
 refine h.h pins s σ _ D I ⟨_, fQ ha' hia E r, ?_⟩
 unfold xA at o
 match hg : f (ρ.set i (some (.lst ds))) with
 | none => rw [hg] at o; exact o.elim
 | some (.exc _) => rw [hg] at o; exact o.elim
 | some (.nx _) => rw [hg] at o; exact o.elim
 | some (.rt d) => rw [hg] at o; exact fun v H2 e2 rd => o v H2 ((dk ha').trans e2) rd⟩
end FD
namespace TS
open PySem PyProof.Rows
section logic
variable {M : Model} {A : Around} {E : Value → Shared → Prop} {J : Shared → Prop} {σ α β : Type}
def wpJ (M : Model) (A : Around) (E : Value → Shared → Prop) (J : Shared → Prop) (m : StateT σ Sem α) (Q : α → σ → Prop) (st : σ) : Prop :=
 ∀ s, J s → wpAny M A (m.run st) (fun r s' => J s' ∧ Q r.1 r.2) E s
theorem bx {a : α} {Q : α → σ → Prop} {st : σ} (h : Q a st) : wpJ M A E J (pure a : StateT σ Sem α) Q st := fun s hs => by
 rw [StateT.run_pure]
 exact wpAny_pure ⟨hs, h⟩
theorem aS {m : StateT σ Sem α} {f : α → StateT σ Sem β} {Q : β → σ → Prop} {st : σ} (h : wpJ M A E J m (fun a st' => wpJ M A E J (f a) Q st') st) : wpJ M A E J (m >>= f) Q st := fun s hs => by
 rw [StateT.run_bind]
 exact wpAny_bind (wpAny_mono (h s hs) (fun r s' h' => h'.2 s' h'.1) fun _ _ e => e)
theorem kJ {m : StateT σ Sem α} {Q Q' : α → σ → Prop} {st : σ} (h : wpJ M A E J m Q st) (hq : ∀ a st', Q a st' → Q' a st') : wpJ M A E J m Q' st := fun s hs =>
 wpAny_mono (h s hs) (fun r _ h' => ⟨h'.1, hq _ _ h'.2⟩) fun _ _ e => e
theorem oj {Q : σ → σ → Prop} {st : σ} (h : Q st st) : wpJ M A E J (get : StateT σ Sem σ) Q st := fun s hs => by
 rw [StateT.run_get]
 exact wpAny_pure ⟨hs, h⟩
theorem gZ {f : σ → σ} {Q : PUnit → σ → Prop} {st : σ} (h : Q ⟨⟩ (f st)) : wpJ M A E J (modify f : StateT σ Sem PUnit) Q st := fun s hs => by
 rw [StateT.run_modify]
 exact wpAny_pure ⟨hs, h⟩
theorem qB {m : Sem α} {Q : α → σ → Prop} {st : σ} (h : ∀ s, J s → wpAny M A m (fun a s' => J s' ∧ Q a st) E s) : wpJ M A E J (liftM m : StateT σ Sem α) Q st := fun s hs => by
 show wpAny M A ((StateT.lift m : StateT σ Sem α).run st) _ E s
 rw [StateT.run_lift]
 exact wpAny_bind (wpAny_mono (h s hs) (fun a s' h' => wpAny_pure h') fun _ _ e => e)
theorem zN (f : Nat → β → StateT σ Sem (ForInStep β)) (I : Nat → β → σ → Prop) (Q : β → σ → Prop) (b : Nat)
 (step : ∀ i c st, i < b → I i c st → wpJ M A E J (f i c) (fun r st' => match r with | .done c' => Q c' st' | .yield c' => I (i + 1) c' st') st)
 (fin : ∀ c st, I b c st → Q c st) : ∀ (n a : Nat) (c : β) (st : σ), a + n = b → I a c st → wpJ M A E J (forIn (List.range' a n 1) c f) Q st
 | 0, a, c, st, e, h => by
  rw [List.range'_zero, List.forIn_nil]
  have : a = b := by omega
  subst this
  exact bx (fin c st h)
 | n + 1, a, c, st, e, h => by
  rw [List.range'_succ, List.forIn_cons]
  refine aS (kJ (step a c st (by omega) h) fun r st' h' => ?_)
  cases r with
  | done c' => exact bx h'
  | yield c' => exact zN f I Q b step fin n (a + 1) c' st' (by omega) h'
theorem gx {a b : Nat} {f : Nat → β → StateT σ Sem (ForInStep β)} (I : Nat → β → σ → Prop) {Q : β → σ → Prop} (hab : a ≤ b)
 (step : ∀ i c st, i < b → I i c st → wpJ M A E J (f i c) (fun r st' => match r with | .done c' => Q c' st' | .yield c' => I (i + 1) c' st') st)
 (fin : ∀ c st, I b c st → Q c st) {c : β} {st : σ} (h : I a c st) : wpJ M A E J (forIn [a:b] c f) Q st := by
 rw [Std.Legacy.Range.forIn_eq_forIn_range']
 have hsz : ([a:b] : Std.Legacy.Range).size = b - a := by simp [Std.Legacy.Range.size]
 show wpJ M A E J (forIn (List.range' a ([a:b] : Std.Legacy.Range).size 1) c f) Q st
 rw [hsz]
 exact zN f I Q b step fin (b - a) a c st (by omega) h
end logic
structure Od (blt : Nat → Nat → Bool) : Prop where
 ir : ∀ a, blt a a = false
 tr : ∀ a b c, blt a b = true → blt b c = true → blt a c = true
 nt : ∀ a b c, blt a c = true → blt a b = true ∨ blt b c = true
def Lex (blt : Nat → Nat → Bool) (a b : Nat) : Prop := blt a b = true ∨ (blt b a = false ∧ a < b)
section order
variable {blt : Nat → Nat → Bool}
theorem Od.le (O : Od blt) {a b c : Nat} (h1 : blt b a = false) (h2 : blt c b = false) : blt c a = false := by
 cases h : blt c a with
 | false => rfl
 | true =>
  rcases O.nt _ b _ h with q | q
  · rw [q] at h2; cases h2
  · rw [q] at h1; cases h1
theorem Od.lt_le (O : Od blt) {a b c : Nat} (h1 : blt a b = true) (h2 : blt c b = false) : blt a c = true := by
 rcases O.nt _ c _ h1 with q | q
 · exact q
 · rw [q] at h2; cases h2
theorem Od.le_lt (O : Od blt) {a b c : Nat} (h1 : blt b a = false) (h2 : blt b c = true) : blt a c = true := by
 rcases O.nt _ a _ h2 with q | q
 · rw [q] at h1; cases h1
 · exact q
theorem Od.as (O : Od blt) {a b : Nat} (h : blt a b = true) : blt b a = false := by
 cases h' : blt b a with
 | false => rfl
 | true => have := O.tr _ _ _ h h'; rw [O.ir] at this; cases this
theorem Lex.tr (O : Od blt) {a b c : Nat} (h1 : Lex blt a b) (h2 : Lex blt b c) : Lex blt a c := by
 rcases h1 with h1 | ⟨h1, i1⟩
 · rcases h2 with h2 | ⟨h2, i2⟩
   · exact .inl (O.tr _ _ _ h1 h2)
   · exact .inl (O.lt_le h1 h2)
 · rcases h2 with h2 | ⟨h2, i2⟩
   · exact .inl (O.le_lt h1 h2)
   · exact .inr ⟨O.le h1 h2, by omega⟩
theorem Lex.of_le {a b : Nat} (h : blt b a = false) (i : a < b) : Lex blt a b := .inr ⟨h, i⟩
end order
structure SB (a₀ : Array Keyed) (kd : SortKind) (p : Nat → Nat) (st : SortSt) : Prop where
 sz : (arrOf st).size = a₀.size
 at' : ∀ k, k < a₀.size → (arrOf st)[k]? = a₀[p k]?
 lt : ∀ k, k < a₀.size → p k < a₀.size
 inj : ∀ a b, a < a₀.size → b < a₀.size → p a = p b → a = b
 kind : kindOf st = kd
 failed : failedOf st = none
 pend : pendingOf st = #[]
def mir (p : Nat → Nat) (i j k : Nat) : Nat := if i ≤ k ∧ k < j then p (i + j - 1 - k) else p k
def bub (p : Nat → Nat) (src dst k : Nat) : Nat := if k = dst then p src else if dst < k ∧ k ≤ src then p (k - 1) else p k
section state
variable {a₀ : Array Keyed} {kd : SortKind} {p : Nat → Nat} {st : SortSt}
theorem SB.mirror (B : SB a₀ kd p st) {i j : Nat} (hj : j ≤ a₀.size) : SB a₀ kd (mir p i j) (setArr st (mirror (arrOf st) i j ((j - i) / 2))) where
 sz := (mirror_size _ _ _ _).trans B.sz
 at' := fun k hk => by
  show (PyProof.Rows.mirror (arrOf st) i j ((j - i) / 2))[k]? = _
  rw [getElem?_mirror_all (by rw [B.sz]; exact hj)]
  unfold mir
  split
  · exact B.at' _ (by omega)
  · exact B.at' _ hk
 lt := fun k hk => by
  unfold mir
  split
  · exact B.lt _ (by omega)
  · exact B.lt _ hk
 inj := fun a b ha hb e => by
  unfold mir at e
  split at e <;> split at e
  · have := B.inj _ _ (by omega) (by omega) e; omega
  · have := B.inj _ _ (by omega) hb e; omega
  · have := B.inj _ _ ha (by omega) e; omega
  · exact B.inj _ _ ha hb e
 kind := B.kind
 failed := B.failed
 pend := B.pend
theorem SB.bubble (B : SB a₀ kd p st) {src dst : Nat} (hs : src < a₀.size) (hd : dst ≤ src) : SB a₀ kd (bub p src dst) (setArr st (bubble (arrOf st) src (src - dst))) where
 sz := (bubble_size _ _ _).trans B.sz
 at' := fun k hk => by
  show (PyProof.Rows.bubble (arrOf st) src (src - dst))[k]? = _
  rw [getElem?_bubble (by rw [B.sz]; exact hs) _ (by omega), show src - (src - dst) = dst by omega]
  unfold bub
  split
  · exact B.at' _ hs
  · split
    · exact B.at' _ (by omega)
    · exact B.at' _ hk
 lt := fun k hk => by
  unfold bub
  split
  · exact B.lt _ hs
  · split
    · exact B.lt _ (by omega)
    · exact B.lt _ hk
 inj := fun a b ha hb e => by
  unfold bub at e
  repeat' split at e
  all_goals first
   | omega
   | (have := B.inj _ _ (by omega) (by omega) e; omega)
 kind := B.kind
 failed := B.failed
 pend := B.pend
end state
def Cm (M : Model) (A : Around) (J : Shared → Prop) (a₀ : Array Keyed) (kd : SortKind) (blt : Nat → Nat → Bool) : Prop :=
 ∀ (i j : Nat) (x y : Keyed) (s : Shared) (E' : Value → Shared → Prop), a₀[i]? = some x → a₀[j]? = some y → J s → wpAny M A (keyLt' kd x.1 y.1) (fun b s' => J s' ∧ b = blt i j) E' s
section
variable {M : Model} {A : Around} {E : Value → Shared → Prop} {J : Shared → Prop} {a₀ : Array Keyed} {kd : SortKind} {blt : Nat → Nat → Bool} {p : Nat → Nat} {st : SortSt}
theorem zO {i j : Nat} {Q : Option Bool → SortSt → Prop} (C : Cm M A J a₀ kd blt) (B : SB a₀ kd p st) (hi : i < a₀.size) (hj : j < a₀.size) (h : Q (some (blt (p i) (p j))) st) : wpJ M A E J (ltAt' i j) Q st := by
 have e1 : (arrOf st)[i]? = some (a₀[p i]'(B.lt i hi)) := by rw [B.at' i hi]; simp [B.lt i hi]
 have e2 : (arrOf st)[j]? = some (a₀[p j]'(B.lt j hj)) := by rw [B.at' j hj]; simp [B.lt j hj]
 rw [ltAt'_eq]
 refine aS (oj ?_)
 show wpJ M A E J (do let x ← elem' (arrOf st) i; let y ← elem' (arrOf st) j; lt' x y) Q st
 rw [elem'_eq, elem'_eq, e1, e2]
 refine aS (bx (aS (bx ?_)))
 rw [lt'_eq]
 refine aS (oj ?_)
 rw [B.kind]
 refine aS (qB fun s hs => wpAny_attempt (wpAny_mono (C (p i) (p j) _ _ s _ (by simp [B.lt i hi]) (by simp [B.lt j hj]) hs) (fun b s' h' => ?_) fun _ _ e => e))
 obtain ⟨h1, rfl⟩ := h'
 exact ⟨h1, bx h⟩
theorem sV {i j : Nat} {Q : Unit → SortSt → Prop} (h : Q () (setArr st (mirror (arrOf st) i j ((j - i) / 2)))) : wpJ M A E J (reverseSlice' i j) Q st := by
 rw [reverseSlice'_eq]; exact gZ h
structure Up (blt : Nat → Nat → Bool) (p : Nat → Nat) (n N : Nat) : Prop where
 so : ∀ a b, a < b → b < n → Lex blt (p a) (p b)
 lo : ∀ a, a < n → p a < n
 re : ∀ a, n ≤ a → a < N → p a = a
theorem Up.next (O : Od blt) {n N : Nat} (U : Up blt p n N) (h1 : 1 ≤ n) (hn : n < N) (h : blt (p n) (p (n - 1)) = false) : Up blt p (n + 1) N where
 so := fun a b hab hb => by
  by_cases hbn : b < n
  · exact U.so a b hab hbn
  · have hb' : b = n := by omega
    subst hb'
    have last : Lex blt (p (b - 1)) (p b) := .of_le h (by rw [U.re b (Nat.le_refl _) hn]; exact U.lo _ (by omega))
    by_cases ha : a = b - 1
    · subst ha; exact last
    · exact (U.so a (b - 1) (by omega) (by omega)).tr O last
 lo := fun a ha => by
  by_cases han : a < n
  · have := U.lo a han; omega
  · have : a = n := by omega
    subst this
    rw [U.re a (Nat.le_refl _) hn]
    omega
 re := fun a ha hN => U.re a (by omega) hN
theorem zP {a nrem : Nat} {Q : AscSt → SortSt → Prop} (O : Od blt) (C : Cm M A J a₀ kd blt) (B : SB a₀ kd p st) (ha : 1 ≤ a) (han : a ≤ nrem) (hn : nrem ≤ a₀.size) (U : Up blt p a a₀.size)
 (h : ∀ n, a ≤ n → n ≤ nrem → Up blt p n a₀.size → (n = nrem ∨ blt (p n) (p (n - 1)) = true) → Q (none, n) st) : wpJ M A E J (ascLoop a nrem) Q st := by
 unfold ascLoop
 refine gx (I := fun x c st' => st' = st ∧ c = (none, x) ∧ a ≤ x ∧ Up blt p x a₀.size) han ?_ ?_ ⟨rfl, rfl, Nat.le_refl _, U⟩
 · rintro x c st' hx ⟨rfl, rfl, hax, U'⟩
   dsimp only
   refine aS (zO C B (by omega) (by omega) ?_)
   cases hl : blt (p x) (p (x - 1)) with
   | true =>
    simp only [if_true]
    exact bx (h x hax (by omega) U' (.inr hl))
   | false =>
    simp only [Bool.false_eq_true, if_false]
    exact bx ⟨rfl, rfl, by omega, U'.next O (by omega) (by omega) hl⟩
 · rintro c st' ⟨rfl, rfl, hax, U'⟩
   exact h nrem hax (Nat.le_refl _) U' (.inl rfl)
structure Dn (blt : Nat → Nat → Bool) (p : Nat → Nat) (n N : Nat) : Prop where
 so : ∀ a b, a < b → b < n → Lex blt (p b) (p a)
 lo : ∀ a, a < n → p a < n
 re : ∀ a, n ≤ a → a < N → p a = a
structure Dq (blt : Nat → Nat → Bool) (p : Nat → Nat) (c n N : Nat) : Prop where
 cn : c < n
 d1 : ∀ a b, a < b → b < c → Lex blt (p b) (p a)
 d2 : ∀ a b, a < c → c ≤ b → b < n → blt (p b) (p a) = true
 d3 : ∀ a b, c ≤ a → a < b → b < n → blt (p a) (p b) = false ∧ blt (p b) (p a) = false ∧ p a < p b
 lo : ∀ a, a < n → p a < n
 re : ∀ a, n ≤ a → a < N → p a = a
theorem Dq.turn {c n N : Nat} (D : Dq blt p c n N) : Dn blt (mir p c n) n N where
 so := fun a b hab hb => by
  unfold mir
  by_cases hbc : c ≤ b
  · rw [if_pos ⟨hbc, hb⟩]
    by_cases hac : c ≤ a
    · rw [if_pos ⟨hac, by omega⟩]
      have := D.d3 (c + n - 1 - b) (c + n - 1 - a) (by omega) (by omega) (by omega)
      exact .inr ⟨this.2.1, this.2.2⟩
    · rw [if_neg (by omega)]
      exact .inl (D.d2 a _ (by omega) (by omega) (by omega))
  · rw [if_neg (by omega), if_neg (by omega)]
    exact D.d1 a b hab (by omega)
 lo := fun a ha => by
  unfold mir
  split
  · exact D.lo _ (by omega)
  · exact D.lo _ ha
 re := fun a ha hN => by
  unfold mir
  rw [if_neg (by omega)]
  exact D.re a ha hN
theorem Dq.one {n N : Nat} (D : Dq blt p (n - 1) n N) : Dn blt p n N where
 so := fun a b hab hb => by
  by_cases hbc : b < n - 1
  · exact D.d1 a b hab hbc
  · exact .inl (D.d2 a b (by omega) (by omega) hb)
 lo := D.lo
 re := D.re
theorem Dn.turn {n N : Nat} (D : Dn blt p n N) : Up blt (mir p 0 n) n N where
 so := fun a b hab hb => by
  unfold mir
  rw [if_pos ⟨Nat.zero_le _, by omega⟩, if_pos ⟨Nat.zero_le _, hb⟩]
  exact D.so _ _ (by omega) (by omega)
 lo := fun a ha => by
  unfold mir
  rw [if_pos ⟨Nat.zero_le _, ha⟩]
  exact D.lo _ (by omega)
 re := fun a ha hN => by
  unfold mir
  rw [if_neg (by omega)]
  exact D.re a ha hN
theorem Dn.next (O : Od blt) {n N : Nat} (D : Dn blt p n N) (h1 : 1 ≤ n) (hn : n < N) (h : blt (p n) (p (n - 1)) = true) : Dq blt p n (n + 1) N where
 cn := by omega
 d1 := D.so
 d2 := fun a b ha hb hb' => by
  have : b = n := by omega
  subst this
  by_cases e : a = b - 1
  · subst e; exact h
  · rcases D.so a (b - 1) (by omega) (by omega) with q | ⟨q, _⟩
    · exact O.tr _ _ _ h q
    · exact O.lt_le h q
 d3 := fun a b ha hab hb => by omega
 lo := fun a ha => by
  by_cases han : a < n
  · have := D.lo a han; omega
  · have : a = n := by omega
    subst this
    rw [D.re a (Nat.le_refl _) hn]
    omega
 re := fun a ha hN => D.re a (by omega) hN
theorem Dq.next (O : Od blt) {c n N : Nat} (D : Dq blt p c n N) (hn : n < N) (h1 : blt (p n) (p (n - 1)) = false) (h2 : blt (p (n - 1)) (p n) = false) : Dq blt p c (n + 1) N where
 cn := by have := D.cn; omega
 d1 := D.d1
 d2 := fun a b ha hb hb' => by
  by_cases hbn : b < n
  · exact D.d2 a b ha hb hbn
  · have : b = n := by omega
    subst this
    exact O.le_lt h2 (D.d2 a (b - 1) ha (by have := D.cn; omega) (by omega))
 d3 := fun a b ha hab hb => by
  by_cases hbn : b < n
  · exact D.d3 a b ha hab hbn
  · have : b = n := by omega
    subst this
    have hlt : p a < p b := by
     have := D.lo a (by omega)
     rw [D.re b (Nat.le_refl _) hn]
     exact this
    by_cases e : a = b - 1
    · subst e; exact ⟨h2, h1, hlt⟩
    · obtain ⟨q1, q2, _⟩ := D.d3 a (b - 1) ha (by omega) (by omega)
      exact ⟨O.le h2 q1, O.le q2 h1, hlt⟩
 lo := fun a ha => by
  by_cases han : a < n
  · have := D.lo a han; omega
  · have : a = n := by omega
    subst this
    rw [D.re a (Nat.le_refl _) hn]
    omega
 re := fun a ha hN => D.re a (by omega) hN
theorem qC {n nrem : Nat} {Q : Option Nat → SortSt → Prop} (O : Od blt) (C : Cm M A J a₀ kd blt) (B : SB a₀ kd p st) (h1 : 1 ≤ n) (hnn : n ≤ nrem) (hn : nrem ≤ a₀.size) (D : Dn blt p n a₀.size)
 (h : ∀ m p' st', SB a₀ kd p' st' → 1 ≤ m → m ≤ nrem → Up blt p' m a₀.size → Q (some m) st') : wpJ M A E J (tail3 n nrem) Q st := by
 unfold tail3
 refine aS (sV ?_)
 have B' := B.mirror (i := 0) (j := n) (by omega)
 exact aS (zP O C B' h1 hnn hn D.turn fun m hm1 hm2 U _ => bx (h m _ _ B' (by omega) hm2 U))
theorem zQ {n nrem : Nat} {Q : DescSt → SortSt → Prop} (O : Od blt) (C : Cm M A J a₀ kd blt) (B : SB a₀ kd p st) (h1 : 2 ≤ n) (hnn : n ≤ nrem) (hn : nrem ≤ a₀.size) (D : Dq blt p (n - 1) n a₀.size)
 (h : ∀ m neq p' st', SB a₀ kd p' st' → n ≤ m → m ≤ nrem → neq + 1 ≤ m → Dq blt p' (m - (neq + 1)) m a₀.size → Q (none, m, neq) st') : wpJ M A E J (descLoop n nrem) Q st := by
 unfold descLoop
 refine gx (I := fun x c st' => ∃ neq p', c = (none, x, neq) ∧ SB a₀ kd p' st' ∧ n ≤ x ∧ neq + 1 ≤ x ∧ Dq blt p' (x - (neq + 1)) x a₀.size) hnn ?_ ?_ ⟨0, p, rfl, B, Nat.le_refl _, by omega, D⟩
 · rintro x c st' hx ⟨neq, p', rfl, B', hax, hq, D'⟩
   dsimp only
   refine aS (zO C B' (by omega) (by omega) ?_)
   cases hl : blt (p' x) (p' (x - 1)) with
   | true =>
    simp only [if_true]
    by_cases hneq : neq > 0
    · rw [if_pos hneq]
      refine aS (sV (bx ?_))
      have B2 := B'.mirror (i := x - (neq + 1)) (j := x) (by omega)
      refine ⟨0, _, rfl, B2, by omega, by omega, ?_⟩
      have D2 := D'.turn
      have hc := D'.cn
      refine D2.next O (by omega) (by omega) ?_
      have e1 : mir p' (x - (neq + 1)) x x = p' x := by unfold mir; rw [if_neg (by omega)]
      have e2 : mir p' (x - (neq + 1)) x (x - 1) = p' (x - (neq + 1)) := by unfold mir; rw [if_pos (by omega)]; congr 1; omega
      rw [e1, e2]
      by_cases e : x - (neq + 1) = x - 1
      · rw [e]; exact hl
      · exact O.lt_le hl (D'.d3 (x - (neq + 1)) (x - 1) (Nat.le_refl _) (by omega) (by omega)).1
    · rw [if_neg hneq]
      have e : neq = 0 := by omega
      subst e
      exact bx ⟨0, p', rfl, B', by omega, by omega, D'.one.next O (by omega) (by omega) hl⟩
   | false =>
    simp only [Bool.false_eq_true, if_false]
    refine aS (zO C B' (by omega) (by omega) ?_)
    cases hg : blt (p' (x - 1)) (p' x) with
    | true =>
     simp only [if_true]
     exact bx (h x neq p' st' B' hax (by omega) hq D')
    | false =>
     simp only [Bool.false_eq_true, if_false]
     refine bx ⟨neq + 1, p', rfl, B', by omega, by omega, ?_⟩
     have := D'.next O (by omega) hl hg
     rwa [show x + 1 - (neq + 1 + 1) = x - (neq + 1) by omega]
 · rintro c st' ⟨neq, p', rfl, B', hax, hq, D'⟩
   exact h nrem neq p' st' B' hax (Nat.le_refl _) hq D'
theorem i8 {n nrem : Nat} {Q : Option Nat → SortSt → Prop} (O : Od blt) (C : Cm M A J a₀ kd blt) (B : SB a₀ kd p st) (h1 : 1 ≤ n) (hnn : n + 1 ≤ nrem) (hn : nrem ≤ a₀.size) (D : Dq blt p n (n + 1) a₀.size)
 (h : ∀ m p' st', SB a₀ kd p' st' → 1 ≤ m → m ≤ nrem → Up blt p' m a₀.size → Q (some m) st') : wpJ M A E J (descPart n nrem) Q st := by
 unfold descPart
 refine aS (qB fun s hs => wpAny_rule ⟨hs, ?_⟩)
 refine aS (zQ O C B (by omega) hnn hn D fun m neq p' st' B' hm1 hm2 hq D' => ?_)
 dsimp only
 by_cases hneq : neq > 0
 · rw [if_pos hneq]
   exact aS (sV (qC O C (B'.mirror (by omega)) (by omega) hm2 hn D'.turn h))
 · rw [if_neg hneq]
   have e : neq = 0 := by omega
   subst e
   exact qC O C B' (by omega) hm2 hn D'.one h
theorem we {nrem : Nat} {Q : Option Nat → SortSt → Prop} (O : Od blt) (C : Cm M A J a₀ kd blt) (B : SB a₀ kd p st) (h1 : 1 ≤ nrem) (hn : nrem ≤ a₀.size) (hp : ∀ k, k < a₀.size → p k = k)
 (h : ∀ m p' st', SB a₀ kd p' st' → 1 ≤ m → m ≤ nrem → Up blt p' m a₀.size → Q (some m) st') : wpJ M A E J (countRun' 0 nrem) Q st := by
 rw [countRun0_eq]
 refine aS (zP O C B (Nat.le_refl 1) h1 hn ⟨fun a b hab hb => by omega, fun a ha => by rw [hp a (by omega)]; exact ha, fun a _ hN => hp a hN⟩ fun n hn1 hn2 U hor => ?_)
 dsimp only
 by_cases hnn : n = nrem
 · rw [if_pos (by simpa using hnn)]
   exact bx (h n p st B hn1 hn2 U)
 · rw [if_neg (by simpa using hnn)]
   have hlt : blt (p n) (p (n - 1)) = true := hor.resolve_left hnn
   by_cases hgt : n > 1
   · rw [if_pos hgt]
     refine aS (zO C B (by omega) (by omega) ?_)
     cases hr : blt (p 0) (p (n - 1)) with
     | true =>
      simp only [if_true]
      exact bx (h n p st B hn1 hn2 U)
     | false =>
      simp only [Bool.false_eq_true, if_false]
      have B' := B.mirror (i := 0) (j := n) (by omega)
      have le0 : ∀ a, a < n → blt (p a) (p 0) = false := fun a ha => by
       by_cases e : a = 0
       · subst e; exact O.ir _
       · rcases U.so 0 a (by omega) ha with q | q
         · exact O.as q
         · exact q.1
      have leN : ∀ a, a < n → blt (p (n - 1)) (p a) = false := fun a ha => by
       by_cases e : a = n - 1
       · subst e; exact O.ir _
       · rcases U.so a (n - 1) (by omega) (by omega) with q | q
         · exact O.as q
         · exact q.1
      have eq : ∀ a b, a < n → b < n → blt (p a) (p b) = false := fun a b ha hb => O.le (leN b hb) (O.le hr (le0 a ha))
      have D : Dq blt (mir p 0 n) n (n + 1) a₀.size := by
       have Dm : Dn blt (mir p 0 n) n a₀.size := ⟨fun a b hab hb => by
        unfold mir
        rw [if_pos ⟨Nat.zero_le _, hb⟩, if_pos ⟨Nat.zero_le _, by omega⟩]
        refine .of_le (eq _ _ (by omega) (by omega)) ?_
        rw [hp _ (by omega), hp _ (by omega)]
        omega, fun a ha => by
        unfold mir
        rw [if_pos ⟨Nat.zero_le _, ha⟩, hp _ (by omega)]
        omega, fun a ha hN => by
        unfold mir
        rw [if_neg (by omega), hp _ hN]⟩
       refine Dm.next O (by omega) (by omega) ?_
       have e1 : mir p 0 n n = p n := by unfold mir; rw [if_neg (by omega)]
       have e2 : mir p 0 n (n - 1) = p 0 := by unfold mir; rw [if_pos (by omega)]; congr 1; omega
       rw [e1, e2]
       exact O.lt_le hlt (eq 0 (n - 1) (by omega) (by omega))
      exact aS (sV (i8 O C B' (by omega) (by omega) hn D h))
   · rw [if_neg hgt]
     have hn1' : n = 1 := by omega
     subst hn1'
     refine i8 O C B (by omega) (by omega) hn ?_ h
     have Dm : Dn blt p 1 a₀.size := ⟨fun a b hab hb => by omega, U.lo, U.re⟩
     exact Dm.next O (by omega) (by omega) hlt
theorem Cj {n ok : Nat} {Q : Bool → SortSt → Prop} (O : Od blt) (C : Cm M A J a₀ kd blt) (B : SB a₀ kd p st) (hok : 1 ≤ ok) (hon : ok ≤ n) (hn : n ≤ a₀.size) (U : Up blt p ok a₀.size)
 (h : ∀ p' st', SB a₀ kd p' st' → Up blt p' n a₀.size → Q true st') : wpJ M A E J (binarySort' 0 n ok) Q st := by
 rw [binarySort'_eq]
 simp only [Nat.zero_add]
 rw [show max ok 1 = ok by omega]
 refine aS (kJ (gx (I := fun k c st' => ∃ p', c = (none, ()) ∧ ok ≤ k ∧ SB a₀ kd p' st' ∧ Up blt p' k a₀.size) (Q := fun c st' => ∃ p', c = (none, ()) ∧ SB a₀ kd p' st' ∧ Up blt p' n a₀.size) hon ?_ ?_ ⟨p, rfl, Nat.le_refl _, B, U⟩) ?_)
 · rintro k c st' hk ⟨p', rfl, hok', B', U'⟩
   have hpk : p' k = k := U'.re k (Nat.le_refl _) (by omega)
   refine aS (kJ (gx (I := fun x c st'' => st'' = st' ∧ ∃ l r, c = (none, l, r) ∧ l ≤ r ∧ r ≤ k ∧ r - l ≤ k - x ∧ (∀ i, i < l → blt (p' k) (p' i) = false) ∧ (∀ i, r ≤ i → i < k → blt (p' k) (p' i) = true))
    (Q := fun c st'' => st'' = st' ∧ ∃ l r, c = (none, l, r) ∧ l ≤ k ∧ (∀ i, i < l → blt (p' k) (p' i) = false) ∧ (∀ i, l ≤ i → i < k → blt (p' k) (p' i) = true)) (Nat.zero_le k) ?_ ?_ ⟨rfl, 0, k, rfl, by omega, by omega, by omega, fun i hi => by omega, fun i h1 h2 => by omega⟩) ?_)
   · rintro x c st'' hx ⟨rfl, l, r, rfl, hlr, hrk, hm, hlo, hhi⟩
     dsimp only
     by_cases hge : l ≥ r
     · rw [if_pos hge]
       have : l = r := by omega
       subst this
       exact bx ⟨rfl, l, l, rfl, hrk, hlo, hhi⟩
     · rw [if_neg hge]
       refine aS (zO C B' (by omega) (by omega) ?_)
       cases hless : blt (p' k) (p' ((l + r) / 2)) with
       | true =>
        simp only [if_true]
        refine bx ⟨rfl, l, (l + r) / 2, rfl, by omega, by omega, by omega, hlo, fun i i1 i2 => ?_⟩
        by_cases e : i = (l + r) / 2
        · subst e; exact hless
        · rcases U'.so ((l + r) / 2) i (by omega) i2 with q | q
          · exact O.tr _ _ _ hless q
          · exact O.lt_le hless q.1
       | false =>
        simp only [Bool.false_eq_true, if_false]
        refine bx ⟨rfl, (l + r) / 2 + 1, r, rfl, by omega, by omega, by omega, fun i i1 => ?_, hhi⟩
        by_cases e : i = (l + r) / 2
        · subst e; exact hless
        · rcases U'.so i ((l + r) / 2) (by omega) (by omega) with q | q
          · exact O.le (O.as q) hless
          · exact O.le q.1 hless
   · rintro c st'' ⟨rfl, l, r, rfl, hlr, hrk, hm, hlo, hhi⟩
     have : l = r := by omega
     subst this
     exact ⟨rfl, l, l, rfl, hrk, hlo, hhi⟩
   · rintro c st'' ⟨rfl, l, r, rfl, hlk, hlo, hhi⟩
     show wpJ M A E J (do moveDown' k l; pure (ForInStep.yield (none, ()))) _ _
     rw [moveDown'_eq]
     refine aS (gZ (bx ⟨bub p' k l, rfl, by omega, B'.bubble (by omega) hlk, ?_⟩))
     refine ⟨fun a b hab hb => ?_, fun a ha => ?_, fun a ha hN => ?_⟩
     · have c1 : bub p' k l l = p' k := by unfold bub; rw [if_pos rfl]
       have c2 : ∀ x, l < x → x ≤ k → bub p' k l x = p' (x - 1) := fun x h1 h2 => by unfold bub; rw [if_neg (by omega), if_pos ⟨h1, h2⟩]
       have c3 : ∀ x, x < l → bub p' k l x = p' x := fun x h1 => by unfold bub; rw [if_neg (by omega), if_neg (by omega)]
       by_cases hbl : b = l
       · subst hbl
         rw [c1, c3 a hab]
         exact .of_le (hlo a (by omega)) (by rw [hpk]; exact U'.lo a (by omega))
       · by_cases hbg : l < b
         · rw [c2 b hbg (by omega)]
           by_cases hal : a = l
           · subst hal
             rw [c1]
             exact .inl (hhi (b - 1) (by omega) (by omega))
           · by_cases hag : l < a
             · rw [c2 a hag (by omega)]
               exact U'.so (a - 1) (b - 1) (by omega) (by omega)
             · rw [c3 a (by omega)]
               exact U'.so a (b - 1) (by omega) (by omega)
         · rw [c3 a (by omega), c3 b (by omega)]
           exact U'.so a b hab (by omega)
     · unfold bub
       split
       · rw [hpk]; omega
       · split
         · have := U'.lo (a - 1) (by omega); omega
         · have := U'.lo a (by omega); omega
     · unfold bub
       rw [if_neg (by omega), if_neg (by omega)]
       exact U'.re a (by omega) hN
 · rintro c st' ⟨p', rfl, _, B', U'⟩
   exact ⟨p', rfl, B', U'⟩
 · rintro c st' ⟨p', rfl, B', U'⟩
   exact bx (h p' st' B' U')
end
section
variable {M : Model} {A : Around} {E : Value → Shared → Prop} {J : Shared → Prop} {a₀ : Array Keyed} {kd : SortKind} {blt : Nat → Nat → Bool} {p : Nat → Nat} {st : SortSt}
structure Ck (a₀ : Array Keyed) (blt : Nat → Nat → Bool) (p : Nat → Nat) (xs : Array Keyed) : Prop where
 sz : xs.size = a₀.size
 at' : ∀ k, k < a₀.size → xs[k]? = a₀[p k]?
 lt : ∀ k, k < a₀.size → p k < a₀.size
 inj : ∀ a b, a < a₀.size → b < a₀.size → p a = p b → a = b
 so : ∀ a b, a < b → b < a₀.size → Lex blt (p a) (p b)
def Dne (a₀ : Array Keyed) (blt : Nat → Nat → Bool) (st : SortSt) : Prop := ∃ p, Ck a₀ blt p (arrOf st) ∧ failedOf st = none ∧ pendingOf st = #[(0, a₀.size, 0)]
theorem SB.done (B : SB a₀ kd p st) (U : Up blt p a₀.size a₀.size) : Dne a₀ blt (setPending st ((pendingOf st).push (0, a₀.size, 0))) :=
 ⟨p, ⟨B.sz, B.at', B.lt, B.inj, U.so⟩, B.failed, by show (pendingOf st).push _ = _; rw [B.pend]; rfl⟩
theorem zR {Q : Unit → SortSt → Prop} (O : Od blt) (C : Cm M A J a₀ kd blt) (B : SB a₀ kd p st) (hp : ∀ k, k < a₀.size → p k = k) (h2 : 2 ≤ a₀.size) (h64 : a₀.size < 64)
 (h : ∀ p' st', Ck a₀ blt p' (arrOf st') → failedOf st' = none → Q () st') : wpJ M A E J sortRuns' Q st := by
 rw [sortRuns'_eq]
 refine aS (oj ?_)
 dsimp only
 have hmr : minRun' a₀.size a₀.size 0 = a₀.size := by
  obtain ⟨f, hf⟩ : ∃ f, a₀.size = f + 1 := ⟨a₀.size - 1, by omega⟩
  have : minRun' (f + 1) a₀.size 0 = a₀.size := by rw [minRun'_succ, if_pos h64]; rfl
  rwa [← hf] at this
 simp only [B.sz, hmr]
 refine aS (kJ (gx (I := fun x c st' => (x = 0 ∧ c = (none, 0) ∧ SB a₀ kd p st') ∨ (1 ≤ x ∧ c = (none, a₀.size) ∧ Dne a₀ blt st')) (Q := fun c st' => c = (none, a₀.size) ∧ Dne a₀ blt st') (Nat.zero_le _) ?_ ?_ (.inl ⟨rfl, rfl, B⟩)) ?_)
 · rintro x c st' hx (⟨rfl, rfl, B'⟩ | ⟨hx1, rfl, D⟩)
   · dsimp only
     rw [if_neg (by omega)]
     simp only [Nat.sub_zero, Nat.min_self, Nat.zero_add]
     refine aS (we O C B' (by omega) (Nat.le_refl _) hp fun m p2 st2 B2 hm1 hm2 U2 => ?_)
     dsimp only
     by_cases hlt : m < a₀.size
     · rw [if_pos hlt]
       refine aS (qB fun s hs => wpAny_rule ⟨hs, ?_⟩)
       refine aS (Cj O C B2 hm1 hm2 (Nat.le_refl _) U2 fun p3 st3 B3 U3 => ?_)
       simp only [Bool.not_true, Bool.false_eq_true, if_false]
       refine aS (oj ?_)
       have hb : (pendingOf st3).back? = none := by rw [B3.pend]; rfl
       rw [hb]
       dsimp only
       exact aS (gZ (bx (.inr ⟨by omega, rfl, B3.done U3⟩)))
     · rw [if_neg hlt]
       have hm : m = a₀.size := by omega
       subst hm
       refine aS (oj ?_)
       have hb : (pendingOf st2).back? = none := by rw [B2.pend]; rfl
       rw [hb]
       dsimp only
       exact aS (gZ (bx (.inr ⟨by omega, rfl, B2.done U2⟩)))
   · dsimp only
     rw [if_pos (Nat.le_refl _)]
     exact bx ⟨rfl, D⟩
 · rintro c st' (⟨hx, _, _⟩ | ⟨_, hc, D⟩)
   · omega
   · exact ⟨hc, D⟩
 · rintro c st' ⟨rfl, pd, D1, D2, D3⟩
   dsimp only
   refine aS (kJ (gx (I := fun _ c st'' => st'' = st' ∧ c = (none, ())) (Q := fun c st'' => st'' = st' ∧ c = (none, ())) (Nat.zero_le _) ?_ (fun _ _ hh => hh) ⟨rfl, rfl⟩) ?_)
   · rintro x c st'' _ ⟨rfl, rfl⟩
     refine aS (oj ?_)
     rw [if_pos (by rw [D3]; exact Nat.le_refl 1)]
     exact bx ⟨rfl, rfl⟩
   · rintro c st'' ⟨rfl, rfl⟩
     exact bx (h pd _ D1 D2)
end
abbrev fW (h : Heap) (a : Addr) (vs : List Value) : Heap := ((h.update a (Obj.mapSeq fun _ => #[])).push (seqObj "tuple" vs.toArray 0)).push (seqObj "list" #[] 0)
section
variable {prog : Program} {w : World} {A : Around} {E : Value → Shared → Prop} {s : Shared} {blt : Nat → Nat → Bool} {Kd : SortKind → Prop}
def JT (s : Shared) (H : Heap) : Shared → Prop := fun s' => ∃ tk, s.toks ≤ tk ∧ s' = { s with heap := H, toks := tk }
theorem zS {a : Addr} {vs : List Value} {n : Nat} {P : PySem.Fin → Shared → Prop} (ho : s.heap.get? a = some (seqObj "list" vs.toArray n)) (h64 : vs.length < 64) (O : Od blt)
 (hkk : 2 ≤ vs.length → ∀ s1, JT s (fW s.heap a vs) s1 → wpAny (model prog w) A (keyKind' vs.toArray) (fun k s' => JT s (fW s.heap a vs) s' ∧ Kd k) E s1)
 (C : ∀ kd, Kd kd → Cm (model prog w) A (JT s (fW s.heap a vs)) (pairsOf vs) kd blt)
 (h : ∀ (p : Nat → Nat) (out : Array Value) (tk : Nat), out.size = vs.length → (∀ k, k < vs.length → out[k]? = vs[p k]?) → (∀ k, k < vs.length → p k < vs.length) → (∀ x y, x < vs.length → y < vs.length → p x = p y → x = y) → (∀ x y, x < y → y < vs.length → Lex blt (p x) (p y)) →
   P (.done (.ret .none)) { s with heap := sortedHeap s.heap a vs out, toks := tk }) :
 wpAny (model prog w) A (Builtin.«list.sort» ⟨[.ref a], []⟩) P E s := by
 rw [list_sort_plain]
 have ha : a < s.heap.objs.size := Heap.lt_size ho
 refine wpAny_bind (listItems_at ho rfl ?_)
 refine wpAny_bind (listUpdate_at ho rfl ?_ (FD.line64 (by simpa using h64)))
 obtain ⟨e1, ho1⟩ : ∃ e1, (s.heap.update a (Obj.mapSeq fun _ => #[])).get? a = some (seqObj "list" #[] e1) := ⟨_, get?_update_seq ho (fun _ => #[])⟩
 refine wpAny_bind (seqEpoch_at ho1 rfl ?_)
 refine wpAny_bind (wpAny_newTuple ?_ (FD.line64 (by simpa using h64)))
 refine wpAny_bind (wpAny_newList ?_)
 refine wpAny_holding ?_
 have ho6 : (fW s.heap a vs).get? a = some (seqObj "list" #[] e1) := by
  rw [Heap.get?_push_ne _ _ _ (by rw [size_push', Heap.size_update]; exact Nat.ne_of_lt (Nat.lt_succ_of_lt ha)), Heap.get?_push_ne _ _ _ (by rw [Heap.size_update]; exact Nat.ne_of_lt ha)]
  exact ho1
 show wpAny (model prog w) A _ P E { s with heap := fW s.heap a vs }
 dsimp only
 have hsz : vs.toArray.size = vs.length := by simp
 have pz : (pairsOf vs).size = vs.length := pairsOf_size vs
 have pat : ∀ k, k < vs.length → (pairsOf vs)[k]? = (vs[k]?).map fun v => (v, v) := fun k hk => by
  unfold pairsOf
  simp [hk]
 by_cases h2 : vs.toArray.size < 2
 · rw [if_pos h2, if_pos h2]
   refine wpAny_bind (wpAny_pure ?_)
   rw [StateT.run_pure]
   refine wpAny_bind (wpAny_pure ?_)
   dsimp only
   refine wpAny_bind (seqEpoch_at ho6 rfl ?_)
   refine wpAny_bind (listUpdate_at ho6 rfl ?_ (hsz2 := by rw [Array.size_map]; show (pairsOf vs).size ≤ _; rw [pairsOf_size, sizeLine_eq]; omega))
   simp only [bne_self_eq_false, Bool.false_eq_true, if_false]
   refine wpAny_pure (h id ((pairsOf vs).map Prod.snd) s.toks (by simp [pz]) (fun k hk => ?_) (fun k hk => hk) (fun x y _ _ e => e) (fun x y hxy hy => by rw [hsz] at h2; omega))
   rw [Array.getElem?_map, pat k hk]
   simp [hk]
 · rw [if_neg h2, if_neg h2]
   rw [hsz] at h2
   refine wpAny_bind (wpAny_mono (hkk (by omega) { s with heap := fW s.heap a vs } ⟨s.toks, Nat.le_refl _, rfl⟩) (fun k s1 hk1 => ?_) fun _ _ e => e)
   obtain ⟨J1, hkd⟩ := hk1
   refine wpAny_bind (wpAny_mono (zR (E := E) (Q := fun _ st' => ∃ p', Ck (pairsOf vs) blt p' (arrOf st') ∧ failedOf st' = none) (p := id) O (C k hkd)
    (st := SortSt.mk' k (vs.toArray.zip vs.toArray) #[] 7 none) ⟨rfl, fun _ _ => rfl, fun _ h => h, fun _ _ _ _ e => e, rfl, rfl, rfl⟩ (fun _ _ => rfl) (by rw [pz]; omega) (by rw [pz]; exact h64) (fun p' st' a1 a2 => ⟨p', a1, a2⟩) s1 J1) ?_ fun _ _ e => e)
   rintro ⟨⟨⟩, st'⟩ s' ⟨⟨tk, _, rfl⟩, p', F, hf⟩
   dsimp only
   refine wpAny_bind (seqEpoch_at (s := { s with heap := fW s.heap a vs, toks := tk }) ho6 rfl ?_)
   refine wpAny_bind (listUpdate_at (s := { s with heap := fW s.heap a vs, toks := tk }) ho6 rfl ?_ (hsz2 := by refine Nat.le_trans (Nat.le_of_eq ((Array.size_map ..).trans (F.sz.trans (pairsOf_size _)))) ?_; rw [sizeLine_eq]; omega))
   rw [hf]
   simp only [bne_self_eq_false, Bool.false_eq_true, if_false]
   have Fl := F.lt
   have Fi := F.inj
   have Fs := F.so
   rw [pz] at Fl Fi Fs
   refine wpAny_pure (h p' _ tk (by rw [Array.size_map, F.sz, pz]) (fun k hk => ?_) Fl Fi Fs)
   rw [Array.getElem?_map, F.at' k (by rw [pz]; exact hk), pat _ (Fl k hk)]
   simp [Fl k hk]
end
theorem om (b : Bool) (x y : Value) : keyLt' (tuples' b) x y = (do
 let xs ← Builtin.List.listItems x; let ys ← Builtin.List.listItems y
 for ((p, q), i) in (xs.toList.zip ys.toList).zipIdx do
  if !(← eqBool p q) then return ← oneLt' (b && i == 0) p q
 return decide (xs.size < ys.size)) := rfl
theorem oo (v : Value) : firstOfTuple' v = (do
 if (← typeOf v) != .type "tuple" then return none
 return (← Builtin.List.listItems v)[0]?) := rfl
def nn (A : Around) (p q : Value) (e l : Bool) : Prop := ∀ (prog : Program) (w : World) (E : Value → Shared → Prop) (s : Shared),
 (∀ Q : Bool → Shared → Prop, Q e s → wpAny (model prog w) A (eqBool p q) Q E s) ∧ (∀ (b : Bool) (Q : Bool → Shared → Prop), Q l s → wpAny (model prog w) A (oneLt' b p q) Q E s)
theorem nq (x : Bool) {M : Model} {A : Around} {E : Value → Shared → Prop} {s : Shared} {Q : Bool → Shared → Prop} (h : Q x s) : wpAny M A (truthOfDropped (.bool x)) Q E s := wpAny_truthy_bool h
theorem sW (A : Around) (a b : Str) (t u : Tok) : nn A (.str a t) (.str b u) (decide (a = b)) (decide (a.cps.toList < b.cps.toList)) := fun prog w E s =>
 ⟨fun Q h => wpAny_eqBool_str h, fun b' Q h => by
  cases b' with
  | true => exact oneLt_str h
  | false =>
   rw [oneLt'_eq]
   simp only [Bool.false_eq_true, if_false]
   exact wpAny_bind (PyProof.Rows.lt_str (nq _ h) : wpAny (model prog w) A (compareOp .Lt (.str a t) (.str b u)) _ E s)⟩
theorem sX (A : Around) (a b : Int) (t u : Tok) : nn A (.int a t) (.int b u) (a == b) (decide (a < b)) := fun prog w E s =>
 ⟨fun Q h => wpAny_eqBool_int h, fun b' Q h => by
  cases b' with
  | true => exact oneLt_int h
  | false =>
   rw [oneLt'_eq]
   simp only [Bool.false_eq_true, if_false]
   exact wpAny_bind (PyProof.Rows.lt_int (nq _ h) : wpAny (model prog w) A (compareOp .Lt (.int a t) (.int b u)) _ E s)⟩
theorem wf (A : Around) (a b : Bool) : nn A (.bool a) (.bool b) (a == b) (decide (b2i a < b2i b)) := fun prog w E s =>
 ⟨fun Q h => SeqAt.EqAt.bool_bool a b prog w E Q h, fun b' Q h => by
  cases b' with
  | true =>
   rw [oneLt'_eq]
   simp only [if_true]
   refine wpAny_bind (wpAny_cRoomFor_byValue rfl ?_)
   refine wpAny_bind (wpAny_callSpecialIfBound?_slot (typeIs_bool' s a) F.slot_bool_lt (call_gives F.slot_bool_lt (typeIs_bool' s a) F.entry_int_lt (F.args_int_lt_2 _ _) (gives_int_lt_bools a b) ?_))
   exact nq _ h
  | false =>
   rw [oneLt'_eq]
   simp only [Bool.false_eq_true, if_false]
   exact wpAny_bind (PyProof.Rows.lt_bool (nq _ h) : wpAny (model prog w) A (compareOp .Lt (.bool a) (.bool b)) _ E s)⟩
def gO : List (Bool × Bool) → Option Bool
 | [] => none
 | (true, _) :: r => gO r
 | (false, l) :: _ => some l
inductive lJ (A : Around) : List (Value × Value) → List (Bool × Bool) → Prop
 | nil : lJ A [] []
 | cons {p q : Value} {e l : Bool} {ps : List (Value × Value)} {rs : List (Bool × Bool)} : nn A p q e l → lJ A ps rs → lJ A ((p, q) :: ps) ((e, l) :: rs)
section
variable {prog : Program} {w : World} {A : Around} {E : Value → Shared → Prop} {s : Shared}
theorem qD (b : Bool) {R : Option Bool × Unit → Shared → Prop} : ∀ {l : List (Value × Value)} {rs : List (Bool × Bool)} (k : Nat), lJ A l rs → R (gO rs, ()) s →
 wpAny (model prog w) A (forIn (l.zipIdx k) ((none, ()) : Option Bool × Unit) fun x __s => match x with
  | ((p, q), i) => do
   let __do_lift ← eqBool p q
   if (!__do_lift) = true then do
    let __do_lift ← oneLt' (b && i == 0) p q
    pure (ForInStep.done (some __do_lift, ()))
    else pure (ForInStep.yield (none, ()))) R E s
 | _, _, k, .nil, h => by
  rw [List.zipIdx_nil, List.forIn_nil]
  exact wpAny_pure h
 | _, _, k, .cons (p := p) (q := q) (e := e) (l := l) i r, h => by
  rw [List.zipIdx_cons, List.forIn_cons]
  refine wpAny_bind ?_
  dsimp only
  refine wpAny_bind ((i prog w E s).1 _ ?_)
  cases e with
  | true =>
   simp only [Bool.not_true, Bool.false_eq_true, if_false]
   exact wpAny_pure (qD b (k + 1) r h)
  | false =>
   simp only [Bool.not_false, if_true]
   exact wpAny_bind ((i prog w E s).2 _ _ (wpAny_pure (wpAny_pure h)))
theorem qE (b : Bool) {a c : Addr} {xs ys : Array Value} {rs : List (Bool × Bool)} {Q : Bool → Shared → Prop} (h1 : s.heap.IsTuple a xs) (h2 : s.heap.IsTuple c ys) (hi : lJ A (xs.toList.zip ys.toList) rs) (h : Q ((gO rs).getD (decide (xs.size < ys.size))) s) :
 wpAny (model prog w) A (keyLt' (tuples' b) (.ref a) (.ref c)) Q E s := by
 rw [om]
 obtain ⟨o1, g1, _, n1, d1⟩ := h1
 obtain ⟨o2, g2, _, n2, d2⟩ := h2
 refine wpAny_bind (listItems_at g1 d1 (wpAny_bind (listItems_at g2 d2 ?_)))
 refine wpAny_bind (qD b 0 hi ?_)
 dsimp only
 cases hf : gO rs with
 | none => rw [hf] at h; exact wpAny_pure h
 | some r => rw [hf] at h; exact wpAny_pure h
inductive fX (h : Heap) : List Value → List Value → Prop
 | nil : fX h [] []
 | cons {a : Addr} {xs : Array Value} {f : Value} {vs fs : List Value} : h.IsTuple a xs → xs[0]? = some f → fX h vs fs → fX h (.ref a :: vs) (f :: fs)
theorem kK {R : List (Option Value) → Shared → Prop} : ∀ {vs : List Value} {fs : List Value}, fX s.heap vs fs → R (fs.map some) s → wpAny (model prog w) A (vs.mapM firstOfTuple') R E s
 | _, _, .nil, h => by rw [List.mapM_nil]; exact wpAny_pure h
 | _, _, .cons e2 e3 r, h => by
  rw [List.mapM_cons, oo]
  obtain ⟨o, g, c, n, d⟩ := e2
  refine wpAny_bind (wpAny_bind (wpAny_typeOf (T := "tuple") ⟨o, g, c⟩ ?_))
  rw [if_neg (by decide)]
  refine wpAny_bind (listItems_at g d (wpAny_pure ?_))
  rw [e3]
  refine wpAny_bind (kK r ?_)
  exact wpAny_pure h
end
end TS
namespace TS
open PySem PyProof.Rows FD
def kdI : Dv → Nat
 | .str _ => 1
 | .int _ => 2
 | .bl _ => 3
 | _ => 0
def eqI : Dv → Dv → Bool
 | .str a, .str b => decide (a = b)
 | .int a, .int b => a == b
 | .bl a, .bl b => a == b
 | _, _ => false
def ltI : Dv → Dv → Bool
 | .str a, .str b => decide (a.cps.toList < b.cps.toList)
 | .int a, .int b => decide (a < b)
 | .bl a, .bl b => decide (b2i a < b2i b)
 | _, _ => false
def ltL : List Dv → List Dv → Bool
 | x :: xs, y :: ys => if eqI x y then ltL xs ys else ltI x y
 | _, _ => false
def sig (ds : List Dv) : List Nat := ds.map kdI
def gy (ks : List Nat) : Bool := ks.all fun k => k != 0
theorem ja {x y : Dv} (h : eqI x y = true) : x = y := by
 cases x <;> cases y <;> simp [eqI] at h <;> simp [h]
theorem nr {x : Dv} (h : kdI x ≠ 0) : eqI x x = true := by
 cases x <;> simp [kdI] at h <;> simp [eqI]
theorem nu (x : Dv) : ltI x x = false := by
 cases x with
 | str a => simp only [ltI, decide_eq_false_iff_not]; exact List.lt_irrefl _
 | int a => simp [ltI]
 | bl a => cases a <;> rfl
 | _ => rfl
theorem nv {x y z : Dv} (h1 : ltI x y = true) (h2 : ltI y z = true) : ltI x z = true := by
 cases x <;> cases y <;> simp only [ltI, Bool.false_eq_true, decide_eq_true_eq] at h1 <;> cases z <;> simp only [ltI, Bool.false_eq_true, decide_eq_true_eq] at h2 ⊢
 · omega
 · omega
 · exact List.lt_trans h1 h2
theorem wg (a b : Str) (h : ¬ a.cps.toList < b.cps.toList) (h' : ¬ b.cps.toList < a.cps.toList) : a = b := by
 have e : a.cps.toList = b.cps.toList := List.le_antisymm (List.not_lt.mp h') (List.not_lt.mp h)
 obtain ⟨⟨a⟩⟩ := a; obtain ⟨⟨b⟩⟩ := b
 simp at e
 rw [e]
theorem qF {x y : Dv} (hk : kdI x = kdI y) (h0 : kdI x ≠ 0) (h1 : ltI x y = false) (h2 : ltI y x = false) : x = y := by
 cases x <;> simp [kdI] at h0 <;> cases y <;> simp [kdI] at hk
 · rename_i a b
   cases a <;> cases b <;> simp [ltI, b2i] at h1 h2 ⊢
 · simp [ltI] at h1 h2
   simp
   omega
 · simp only [ltI, decide_eq_false_iff_not] at h1 h2
   rw [wg _ _ h1 h2]
theorem uG : ∀ xs : List Dv, ltL xs xs = false
 | [] => rfl
 | x :: xs => by
  unfold ltL
  split
  · exact uG xs
  · exact nu x
theorem uH : ∀ {xs ys zs : List Dv}, ltL xs ys = true → ltL ys zs = true → ltL xs zs = true
 | x :: xs, y :: ys, z :: zs, h1, h2 => by
  unfold ltL at h1 h2 ⊢
  by_cases e1 : eqI x y = true
  · have := ja e1
    subst this
    rw [if_pos e1] at h1
    by_cases e2 : eqI x z = true
    · rw [if_pos e2] at h2 ⊢
      exact uH h1 h2
    · rw [if_neg e2] at h2 ⊢
      exact h2
  · rw [if_neg e1] at h1
    by_cases e2 : eqI y z = true
    · have := ja e2
      subst this
      rw [if_neg e1]
      exact h1
    · rw [if_neg e2] at h2
      have := nv h1 h2
      rw [if_neg fun e => by
       have := ja e
       subst this
       have := nv h1 h2
       rw [nu] at this
       cases this]
      exact this
 | [], _, _, h1, _ => by simp [ltL] at h1
 | _ :: _, [], _, h1, _ => by simp [ltL] at h1
 | _ :: _, _ :: _, [], _, h2 => by simp [ltL] at h2
theorem uI : ∀ {xs ys zs : List Dv}, sig xs = sig ys → sig ys = sig zs → gy (sig xs) = true → ltL xs zs = true → ltL xs ys = true ∨ ltL ys zs = true
 | x :: xs, y :: ys, z :: zs, s1, s2, hk, h => by
  simp only [sig, List.map_cons, List.cons.injEq] at s1 s2
  simp only [sig, gy, List.map_cons, List.all_cons, Bool.and_eq_true, bne_iff_ne, ne_eq] at hk
  have hx := hk.1
  unfold ltL at h ⊢
  by_cases e1 : eqI x y = true
  · have := ja e1
    subst this
    rw [if_pos e1]
    by_cases e2 : eqI x z = true
    · rw [if_pos e2] at h ⊢
      exact uI s1.2 s2.2 (by simpa [gy, sig] using hk.2) h
    · rw [if_neg e2] at h ⊢
      exact .inr h
  · rw [if_neg e1]
    by_cases e2 : eqI y z = true
    · have := ja e2
      subst this
      rw [if_neg e1] at h
      exact .inl h
    · rw [if_neg e2]
      cases hl : ltI x y with
      | true => exact .inl rfl
      | false =>
       cases hr : ltI y z with
       | true => exact .inr rfl
       | false =>
        exfalso
        have g1 : ltI y x = true := by
         cases q : ltI y x with
         | true => rfl
         | false =>
          have := qF s1.1 hx hl q
          subst this
          exact absurd (nr hx) e1
        have g2 : ltI z y = true := by
         cases q : ltI z y with
         | true => rfl
         | false =>
          have := qF s2.1 (by rw [← s1.1]; exact hx) hr q
          subst this
          exact absurd (nr (by rw [← s1.1]; exact hx)) e2
        have g3 := nv g2 g1
        by_cases e3 : eqI x z = true
        · have := ja e3
          subst this
          rw [nu] at g3
          cases g3
        · rw [if_neg e3] at h
          have := nv h g3
          rw [nu] at this
          cases this
 | [], _, _, _, _, _, h => by simp [ltL] at h
 | _ :: _, [], _, s1, _, _, _ => by simp [sig] at s1
 | _ :: _, _ :: _, [], _, s2, _, _ => by simp [sig] at s2
theorem qG {R : Nat → Nat → Prop} (as : ∀ a b, R a b → R b a → False) : ∀ {l m : List Nat}, l.Perm m → l.Pairwise R → m.Pairwise R → l = m
 | [], m, hp, _, _ => hp.nil_eq
 | x :: l, [], hp, _, _ => by simpa using hp.length_eq
 | x :: l, y :: m, hp, h1, h2 => by
  rw [List.pairwise_cons] at h1 h2
  have e : x = y := by
   rcases List.mem_cons.mp (hp.mem_iff.mp (List.mem_cons_self (a := x))) with e | hx
   · exact e
   · rcases List.mem_cons.mp (hp.mem_iff.mpr (List.mem_cons_self (a := y))) with e | hy
     · exact e.symm
     · exact (as _ _ (h1.1 y hy) (h2.1 x hx)).elim
  subst e
  rw [qG as hp.cons_inv h1.2 h2.2]
theorem Lex.as {blt : Nat → Nat → Bool} (O : Od blt) {a b : Nat} (h : Lex blt a b) (h' : Lex blt b a) : False := by
 have := h.tr O h'
 rcases this with q | q
 · rw [O.ir] at q; cases q
 · omega
theorem qH {blt : Nat → Nat → Bool} (O : Od blt) (x : Nat) : ∀ l : List Nat, (∀ y ∈ l, x < y) → l.Pairwise (Lex blt) → (oh (fun i j => !blt j i) x l).Pairwise (Lex blt)
 | [], _, _ => by simp [oh]
 | y :: l, hx, h => by
  unfold oh
  rw [List.pairwise_cons] at h
  split
  · rename_i hc
    have hxy : Lex blt x y := .of_le (by simpa using hc) (hx y List.mem_cons_self)
    rw [List.pairwise_cons, List.pairwise_cons]
    refine ⟨fun z hz => ?_, h⟩
    rcases List.mem_cons.mp hz with rfl | hz
    · exact hxy
    · exact hxy.tr O (h.1 z hz)
  · rename_i hc
    rw [List.pairwise_cons]
    refine ⟨fun z hz => ?_, qH O x l (fun z hz => hx z (List.mem_cons_of_mem _ hz)) h.2⟩
    rcases List.mem_cons.mp ((fV _ x l).mem_iff.mp hz) with rfl | hz
    · exact .inl (by simpa using hc)
    · exact h.1 z hz
theorem ny {blt : Nat → Nat → Bool} (O : Od blt) : ∀ l : List Nat, l.Pairwise (· < ·) → (isortB (fun i j => !blt j i) l).Pairwise (Lex blt)
 | [], _ => .nil
 | x :: l, h => by
  rw [List.pairwise_cons] at h
  exact qH O x _ (fun y hy => h.1 y ((isortB_perm _ l).mem_iff.mp hy)) (ny O l h.2)
theorem qI {α β : Type} {le : α → α → Bool} {le' : β → β → Bool} (f : α → β) (x : α) : ∀ l : List α, (∀ y ∈ l, le x y = le' (f x) (f y)) → (oh le x l).map f = oh le' (f x) (l.map f)
 | [], _ => rfl
 | y :: l, h => by
  have e := h y List.mem_cons_self
  simp only [oh, List.map_cons]
  rw [← e]
  split
  · rfl
  · rw [List.map_cons, qI f x l fun z hz => h z (List.mem_cons_of_mem _ hz)]
theorem nz {α β : Type} {le : α → α → Bool} {le' : β → β → Bool} (f : α → β) : ∀ l : List α, (∀ x ∈ l, ∀ y ∈ l, le x y = le' (f x) (f y)) → (isortB le l).map f = isortB le' (l.map f)
 | [], _ => rfl
 | x :: l, h => by
  simp only [isortB, List.map_cons]
  rw [qI (le' := le') f x _ fun y hy => h x List.mem_cons_self y (List.mem_cons_of_mem _ ((isortB_perm _ l).mem_iff.mp hy)), nz f l fun a ha b hb => h a (List.mem_cons_of_mem _ ha) b (List.mem_cons_of_mem _ hb)]
theorem ip : ∀ (l m : List Nat), l.Nodup → (∀ x ∈ l, x ∈ m) → m.length ≤ l.length → l.Perm m
 | [], m, _, _, h => by
  have : m = [] := List.length_eq_zero_iff.mp (by simpa using h)
  subst this
  exact .refl _
 | x :: l, m, nd, hs, h => by
  rw [List.nodup_cons] at nd
  obtain ⟨m1, m2, rfl⟩ := List.append_of_mem (hs x List.mem_cons_self)
  refine ((ip l (m1 ++ m2) nd.2 (fun y hy => ?_) (by simp at h ⊢; omega)).cons x).trans List.perm_middle.symm
  have := hs y (List.mem_cons_of_mem _ hy)
  simp only [List.mem_append, List.mem_cons] at this ⊢
  rcases this with q | rfl | q
  · exact .inl q
  · exact (nd.1 hy).elim
  · exact .inr q
theorem lK {n : Nat} {p : Nat → Nat} (hlt : ∀ k, k < n → p k < n) (inj : ∀ a b, a < n → b < n → p a = p b → a = b) : ((List.range n).map p).Perm (List.range n) := by
 have nd : ((List.range n).map p).Nodup := by
  rw [List.nodup_iff_pairwise_ne, List.pairwise_map]
  refine (List.nodup_range (n := n)).imp_of_mem fun {a b} ha hb hab e => hab (inj a b (by simpa using ha) (by simpa using hb) e)
 have sub : ∀ x ∈ (List.range n).map p, x ∈ List.range n := fun x hx => by
  obtain ⟨k, hk, rfl⟩ := List.mem_map.mp hx
  simpa using hlt k (by simpa using hk)
 exact ip _ _ nd sub (by simp)
theorem qJ {blt : Nat → Nat → Bool} (O : Od blt) {n : Nat} {p : Nat → Nat} (hlt : ∀ k, k < n → p k < n) (inj : ∀ a b, a < n → b < n → p a = p b → a = b) (so : ∀ a b, a < b → b < n → Lex blt (p a) (p b)) :
 (List.range n).map p = isortB (fun i j => !blt j i) (List.range n) := by
 refine qG (fun a b h h' => h.as O h') ((lK hlt inj).trans (isortB_perm _ _).symm) ?_ (ny O _ List.pairwise_lt_range)
 rw [List.pairwise_map]
 exact (List.pairwise_lt_range (n := n)).imp_of_mem fun {a b} ha hb hab => so a b hab (by simpa using hb)
section
variable {prog : Program} {w : World} {A : Around} {E : Value → Shared → Prop} {s : Shared}
theorem nA {R : List Value → Shared → Prop} : ∀ {fs : List Value}, (∀ f ∈ fs, ∃ T, ∀ s' : Shared, s'.TypeIs f T) → (∀ ts, R ts s) → wpAny (model prog w) A (fs.mapM typeOf) R E s
 | [], _, h => by rw [List.mapM_nil]; exact wpAny_pure (h _)
 | f :: fs, hf, h => by
  obtain ⟨T, hT⟩ := hf f List.mem_cons_self
  rw [List.mapM_cons]
  refine wpAny_bind (wpAny_typeOf (hT s) ?_)
  exact wpAny_bind (nA (fun g hg => hf g (List.mem_cons_of_mem _ hg)) fun ts => wpAny_pure (h _))
theorem Co {vs fs : List Value} (hF : fX s.heap vs fs) (hf : ∀ f ∈ fs, ∃ T, ∀ s' : Shared, s'.TypeIs f T) {R : SortKind → Shared → Prop} (h : ∀ b, R (tuples' b) s) : wpAny (model prog w) A (keyKind' vs.toArray) R E s := by
 rw [keyKind'_eq, List.mapM_toArray]
 refine wpAny_bind ?_
 rw [← bind_pure_comp]
 refine wpAny_bind (kK hF (wpAny_pure ?_))
 rw [if_pos (by simp)]
 refine wpAny_bind (wpAny_rule ?_)
 have e : (fs.map some).toArray.filterMap id = fs.toArray := by simp
 rw [e, oneTypeOnly'_eq, List.mapM_toArray]
 refine wpAny_bind (wpAny_bind ?_)
 rw [← bind_pure_comp]
 refine wpAny_bind (nA hf fun ts => wpAny_pure ?_)
 split
 · exact wpAny_pure (wpAny_pure (h _))
 · exact wpAny_pure (wpAny_pure (h _))
end
section
variable {prog : Program} {w : World} {A : Around} {E : Value → Shared → Prop} {s : Shared} {blt : Nat → Nat → Bool}
theorem sY {l : Addr} {vs fs : List Value} {Q : Value → Shared → Prop} (hl : s.heap.IsList l vs.toArray) (h64 : vs.length < 64) (O : Od blt) (hF : fX s.heap vs fs) (hf : ∀ f ∈ fs, ∃ T, ∀ s' : Shared, s'.TypeIs f T)
 (hC : ∀ (A' : Around) (i j : Nat) (x y : Value), vs[i]? = some x → vs[j]? = some y → ∃ a c xs ys rs, x = .ref a ∧ y = .ref c ∧ s.heap.IsTuple a xs ∧ s.heap.IsTuple c ys ∧ lJ A' (xs.toList.zip ys.toList) rs ∧ (gO rs).getD (decide (xs.size < ys.size)) = blt i j)
 (h : ∀ (L : Addr) (h' : Heap) (tk : Nat) (out : List Value) (e : Nat) (p : Nat → Nat), h'.get? L = some (seqObj "list" out.toArray e) → s.heap.objs.size ≤ L → (∀ b o, s.heap.get? b = some o → h'.get? b = some o) →
   out.length = vs.length → (∀ k, k < vs.length → out[k]? = vs[p k]?) → (List.range vs.length).map p = isortB (fun i j => !blt j i) (List.range vs.length) → (∀ k, k < vs.length → p k < vs.length) → Q (.ref L) { s with heap := h', toks := tk }) :
 wpAny (model prog w) A (call (.builtin "sorted") [.ref l]) Q E s := by
 refine Calls.call_function_entry kind_sorted plain_sorted entry_sorted (args_sorted1 _) ?_
 unfold Builtin.«sorted»
 refine wpAny_bind (m := checkCount "sorted" 1 1 _) (wpAny_pure ?_)
 refine wpAny_bind (collect_list hl ?_ (line64 h64))
 refine wpAny_bind (wpAny_newList ?_ (line64 h64))
 generalize hH : (s.heap.push (seqObj "list" #[] 0)).update s.heap.objs.size (Obj.mapSeq (· ++ vs.toArray)) = H1
 have sz1 : H1.objs.size = s.heap.objs.size + 1 := by rw [← hH, Heap.size_update, size_push']
 have up1 : ∀ b o, s.heap.get? b = some o → H1.get? b = some o := fun b o q => by
  have := Heap.lt_size q
  rw [← hH, Heap.get?_update_ne _ _ _ _ (Nat.ne_of_lt this), Heap.get?_push_ne _ _ _ (Nat.ne_of_lt this)]
  exact q
 have hoL : (H1.push (seqObj "list" vs.toArray 0)).get? H1.objs.size = some (seqObj "list" vs.toArray 0) := Heap.get?_push_size _ rfl
 have up2 : ∀ b o, s.heap.get? b = some o → (fW (H1.push (seqObj "list" vs.toArray 0)) H1.objs.size vs).get? b = some o := fun b o q => by
  have q1 := up1 b o q
  have := Heap.lt_size q1
  unfold fW
  rw [Heap.get?_push_ne _ _ _ (by rw [size_push', Heap.size_update, size_push']; exact Nat.ne_of_lt (Nat.lt_succ_of_lt (Nat.lt_succ_of_lt this))), Heap.get?_push_ne _ _ _ (by rw [Heap.size_update, size_push']; exact Nat.ne_of_lt (Nat.lt_succ_of_lt this)), Heap.get?_update_ne _ _ _ _ (Nat.ne_of_lt this), Heap.get?_push_ne _ _ _ (Nat.ne_of_lt this)]
  exact q1
 have tup2 : ∀ a xs, s.heap.IsTuple a xs → (fW (H1.push (seqObj "list" vs.toArray 0)) H1.objs.size vs).IsTuple a xs := fun a xs ⟨o, g, r⟩ => ⟨o, up2 _ _ g, r⟩
 have F2 : ∀ {vs' fs' : List Value}, fX s.heap vs' fs' → fX (fW (H1.push (seqObj "list" vs.toArray 0)) H1.objs.size vs) vs' fs' := by
  intro vs' fs' hF'
  induction hF' with
  | nil => exact .nil
  | cons a b _ ih => exact .cons (tup2 _ _ a) b ih
 show wpAny _ _ _ _ _ { s with heap := H1.push (seqObj "list" vs.toArray 0) }
 refine wpAny_bind (wpAny_holding (wpAny_call_entry slot_list_sort ⟨_, hoL, rfl⟩ entry_list_sort (zS (s := { s with heap := H1.push (seqObj "list" vs.toArray 0) }) (Kd := fun k => ∃ b, k = tuples' b) hoL h64 O (fun _ s1 J1 => ?_) (fun kd hk => ?_) fun p out tk o1 o2 o3 o4 o5 => ⟨_, rfl, ?_⟩) (args_list_sort _)))
 · obtain ⟨tk, htk, rfl⟩ := J1
   exact Co (s := { s with heap := fW (H1.push (seqObj "list" vs.toArray 0)) H1.objs.size vs, toks := tk }) (F2 hF) hf fun b => ⟨⟨tk, htk, rfl⟩, b, rfl⟩
 · obtain ⟨b, rfl⟩ := hk
   intro i j x y s1 E' ex ey J1
   obtain ⟨tk, htk, rfl⟩ := J1
   have pz : ∀ (k : Nat) (z : Keyed), (pairsOf vs)[k]? = some z → vs[k]? = some z.1 := fun k z hz => by
    have hk : k < vs.length := by
     have := (Array.getElem?_eq_some_iff.mp hz).1
     rwa [pairsOf_size] at this
    unfold pairsOf at hz
    simp [hk] at hz
    rw [List.getElem?_eq_getElem hk, ← hz]
   obtain ⟨a, c, xs, ys, rs, e1, e2, t1, t2, it, eb⟩ := hC _ i j x.1 y.1 (pz i x ex) (pz j y ey)
   rw [e1, e2]
   refine qE (s := { s with heap := fW (H1.push (seqObj "list" vs.toArray 0)) H1.objs.size vs, toks := tk }) b (tup2 _ _ t1) (tup2 _ _ t2) it ⟨⟨tk, htk, rfl⟩, eb⟩
 · obtain ⟨e, he⟩ := sortedHeap_at (out := out) hoL
   refine wpAny_pure ⟨_, rfl, h H1.objs.size _ tk out.toList e p (by rw [Array.toArray_toList]; exact he) (by rw [sz1]; exact Nat.le_succ _) (fun b o q => ?_) (by simpa using o1) (fun k hk => by simpa using o2 k hk) (qJ O o3 o4 o5) o3⟩
   have q1 := up1 b o q
   have := Heap.lt_size q1
   rw [sortedHeap_old (Nat.ne_of_lt this) (by rw [size_push']; exact Nat.lt_succ_of_lt this), Heap.get?_push_ne _ _ _ (Nat.ne_of_lt this)]
   exact q1
end
end TS
namespace FD
open PySem PySem.Spec PyProof.Rows L2 TS
def iq : List Dv → Option (List (List Dv))
 | [] => some []
 | .tup es :: r => (iq r).map (es :: ·)
 | _ => none
def kL (rows : List (List Dv)) : Bool := decide (rows.length < 64) && rows.all fun r => decide (sig r = sig (rows.headD [])) && !r.isEmpty && gy (sig r)
def qK : List Dv → Option (Rs Dv)
 | [.lst ds] => match iq ds with
  | some rows => if kL rows = true then some (.ok (.lst ((isortB (fun a b => !ltL b a) rows).map Dv.tup))) else none
  | none => zI [.lst ds]
 | _ => none
theorem nB : ∀ {ds : List Dv} {rows : List (List Dv)}, iq ds = some rows → ds = rows.map Dv.tup
 | [], rows, h => by cases h; rfl
 | .tup es :: r, rows, h => by
  obtain ⟨rs, h1, rfl⟩ := Option.map_eq_some_iff.mp (show (iq r).map (es :: ·) = some rows from h)
  rw [nB h1]
  rfl
 | .non :: _, _, h => by cases h
 | .bl _ :: _, _, h => by cases h
 | .int _ :: _, _, h => by cases h
 | .str _ :: _, _, h => by cases h
 | .lst _ :: _, _, h => by cases h
 | .scr _ :: _, _, h => by cases h
 | .exn _ :: _, _, h => by cases h
theorem fm (k l : Bool) (rs : List (Bool × Bool)) : (gO ((k, l) :: rs)).getD false = if k = true then (gO rs).getD false else l := by cases k <;> rfl
theorem nF {K : PySem.W.Frag} {H : Hp} {A : Around} : ∀ {es es' : List Dv} {us us' : List V} {tis tis' : List Value}, sig es = sig es' → gy (sig es) = true → Reps K H es us → Reps K H es' us' → Vals us tis → Vals us' tis' →
 ∃ rs, lJ A (tis.zip tis') rs ∧ (gO rs).getD false = ltL es es'
 | [], [], us, us', tis, tis', _, _, r, r', v, v' => by
  cases (show us = [] from r)
  cases v
  exact ⟨[], .nil, rfl⟩
 | x :: es, y :: es', us, us', tis, tis', s, hk, r, r', v, v' => by
  obtain ⟨u, us1, rfl, r1, r2⟩ : ∃ v us1, us = v :: us1 ∧ Rep K H x v ∧ Reps K H es us1 := r
  obtain ⟨u', us1', rfl, r1', r2'⟩ : ∃ v us1, us' = v :: us1 ∧ Rep K H y v ∧ Reps K H es' us1 := r'
  simp only [sig, List.map_cons, List.cons.injEq] at s
  simp only [sig, gy, List.map_cons, List.all_cons, Bool.and_eq_true, bne_iff_ne, ne_eq] at hk
  cases v with
  | cons v1 v2 =>
   cases v' with
   | cons v1' v2' =>
    obtain ⟨rs, i1, i2⟩ := nF (A := A) s.2 (by simpa [gy, sig] using hk.2) r2 r2' v2 v2'
    cases x with
    | str a =>
     cases y with
     | str b =>
      cases (show u = .str a from r1)
      cases (show u' = .str b from r1')
      obtain ⟨t, rfl⟩ := v1
      obtain ⟨t', rfl⟩ := v1'
      refine ⟨(decide (a = b), decide (a.cps.toList < b.cps.toList)) :: rs, .cons (sW A a b t t') i1, ?_⟩
      rw [fm, i2]
      rfl
     | _ => exact absurd s.1 (by simp [kdI])
    | int a =>
     cases y with
     | int b =>
      cases (show u = .int a from r1)
      cases (show u' = .int b from r1')
      obtain ⟨t, rfl⟩ := v1
      obtain ⟨t', rfl⟩ := v1'
      refine ⟨(a == b, decide (a < b)) :: rs, .cons (sX A a b t t') i1, ?_⟩
      rw [fm, i2]
      rfl
     | _ => exact absurd s.1 (by simp [kdI])
    | bl a =>
     cases y with
     | bl b =>
      cases (show u = .bl a from r1)
      cases (show u' = .bl b from r1')
      cases v1
      cases v1'
      refine ⟨(a == b, decide (b2i a < b2i b)) :: rs, .cons (wf A a b) i1, ?_⟩
      rw [fm, i2]
      rfl
     | _ => exact absurd s.1 (by simp [kdI])
    | _ => exact absurd rfl hk.1
 | [], _ :: _, _, _, _, _, s, _, _, _, _, _ => by simp [sig] at s
 | _ :: _, [], _, _, _, _, s, _, _, _, _, _ => by simp [sig] at s
theorem sZ {K : PySem.W.Frag} {H : Hp} {x : Dv} {v : V} {u : Value} (hk : kdI x ≠ 0) (r : Rep K H x v) (rv : RelV v u) : ∃ T, ∀ s' : Shared, s'.TypeIs u T := by
 cases x with
 | str a => cases (show v = .str a from r); obtain ⟨t, rfl⟩ := rv; exact ⟨"str", fun s => typeIs_str s _ _⟩
 | int a => cases (show v = .int a from r); obtain ⟨t, rfl⟩ := rv; exact ⟨"int", fun s => typeIs_int s _ _⟩
 | bl a => cases (show v = .bl a from r); cases rv; exact ⟨"bool", fun s => typeIs_bool' s _⟩
 | _ => exact absurd rfl hk
section
variable {X : Cx} {pins : List (Addr × Obj)} {σ : L2.St} {H : Hp} {s : Shared}
theorem kM (I : Inv X pins σ H s) : ∀ {rows : List (List Dv)} {ws : List V} {its : List Value}, (∀ r ∈ rows, r ≠ [] ∧ gy (sig r) = true) → Reps X.K H (rows.map Dv.tup) ws → Vals ws its → ∃ fs, fX s.heap its fs ∧ ∀ f ∈ fs, ∃ T, ∀ s' : Shared, s'.TypeIs f T
 | [], ws, its, _, r, v => by
  cases (show ws = [] from r)
  cases v
  exact ⟨[], .nil, by simp⟩
 | es :: rows, ws, its, h, r, v => by
  obtain ⟨u, ws1, rfl, r1, r2⟩ : ∃ v ws1, ws = v :: ws1 ∧ Rep X.K H (.tup es) v ∧ Reps X.K H (rows.map Dv.tup) ws1 := r
  obtain ⟨a, xs, rfl, ha, rx⟩ := r1.tupE
  cases v with
  | cons v1 v2 =>
   cases v1
   obtain ⟨fs, f1, f2⟩ := kM I (fun r hr => h r (List.mem_cons_of_mem _ hr)) r2 v2
   obtain ⟨tis, rt, pt, hz⟩ := I.tuple (SqT.of ha)
   obtain ⟨h1, h2⟩ := h es List.mem_cons_self
   cases es with
   | nil => exact absurd rfl h1
   | cons x es =>
    obtain ⟨u, us, rfl, q1, q2⟩ : ∃ v us, xs = v :: us ∧ Rep X.K H x v ∧ Reps X.K H es us := rx
    cases rt with
    | cons w1 w2 =>
     rename_i t ts
     refine ⟨t :: fs, .cons pt (by simp) f1, fun f hf => ?_⟩
     rcases List.mem_cons.mp hf with rfl | hf
     · simp only [sig, gy, List.map_cons, List.all_cons, Bool.and_eq_true, bne_iff_ne, ne_eq] at h2
       exact sZ h2.1 q1 w1
     · exact f2 f hf
theorem qL (I : Inv X pins σ H s) : ∀ {rows : List (List Dv)} {ws : List V} {its : List Value} (i : Nat) (x : Value), Reps X.K H (rows.map Dv.tup) ws → Vals ws its → its[i]? = some x → ∃ a us tis es, rows[i]? = some es ∧ ws[i]? = some (.ref a) ∧ x = .ref a ∧ Reps X.K H es us ∧ Vals us tis ∧ H a = some (.tup us) ∧ s.heap.IsTuple a tis.toArray
 | [], ws, its, i, x, r, v, h => by
  cases (show ws = [] from r)
  cases v
  simp at h
 | es :: rows, ws, its, i, x, r, v, h => by
  obtain ⟨u, ws1, rfl, r1, r2⟩ : ∃ v ws1, ws = v :: ws1 ∧ Rep X.K H (.tup es) v ∧ Reps X.K H (rows.map Dv.tup) ws1 := r
  obtain ⟨a, xs, rfl, ha, rx⟩ := r1.tupE
  cases v with
  | cons v1 v2 =>
   cases v1
   cases i with
   | zero =>
    simp at h
    subst h
    obtain ⟨tis, rt, pt, hz⟩ := I.tuple (SqT.of ha)
    exact ⟨a, xs, tis, es, rfl, rfl, rfl, rx, rt, ha, pt⟩
   | succ i =>
    obtain ⟨a', us, tis, es', q1, q2, q⟩ := qL I i x r2 v2 (by simpa using h)
    exact ⟨a', us, tis, es', by simpa using q1, by simpa using q2, q⟩
theorem g8 {K : PySem.W.Frag} : ∀ {ds : List Dv} {ws : List V}, Reps K H ds ws → ds.length = ws.length
 | [], ws, r => by cases (show ws = [] from r); rfl
 | d :: ds, ws, r => by
  obtain ⟨u, ws1, rfl, r1, r2⟩ : ∃ v ws1, ws = v :: ws1 ∧ Rep K H d v ∧ Reps K H ds ws1 := r
  simp [g8 r2]
theorem oq {K : PySem.W.Frag} {ds : List Dv} {ws : List V} (hl : ds.length = ws.length) (h : ∀ (i : Nat) (d : Dv) (v : V), ds[i]? = some d → ws[i]? = some v → Rep K H d v) : Reps K H ds ws := by
 induction ds generalizing ws with
 | nil => cases ws with
  | nil => exact rfl
  | cons _ _ => simp at hl
 | cons d ds ih => cases ws with
  | nil => simp at hl
  | cons w ws => exact ⟨w, ws, rfl, h 0 d w rfl rfl, ih (by simpa using hl) fun i d' v e1 e2 => h (i + 1) d' v (by simpa using e1) (by simpa using e2)⟩
theorem qM {K : PySem.W.Frag} : ∀ {ds : List Dv} {ws : List V}, Reps K H ds ws → ∀ (i : Nat) (d : Dv) (v : V), ds[i]? = some d → ws[i]? = some v → Rep K H d v
 | [], _, _, i, d, v, h, _ => by simp at h
 | d0 :: ds, ws, r, i, d, v, h, h' => by
  obtain ⟨u, ws1, rfl, r1, r2⟩ : ∃ v ws1, ws = v :: ws1 ∧ Rep K H d0 v ∧ Reps K H ds ws1 := r
  cases i with
  | zero => simp at h h'; subst h; subst h'; exact r1
  | succ i => exact qM r2 i d v (by simpa using h) (by simpa using h')
theorem ot {ws : List V} {its : List Value} (hl : ws.length = its.length) (h : ∀ (i : Nat) (v : V) (u : Value), ws[i]? = some v → its[i]? = some u → RelV v u) : Vals ws its := by
 induction ws generalizing its with
 | nil => cases its with
  | nil => exact .nil
  | cons _ _ => simp at hl
 | cons d ds ih => cases its with
  | nil => simp at hl
  | cons w ws => exact .cons (h 0 d w rfl rfl) (ih (by simpa using hl) fun i d' v e1 e2 => h (i + 1) d' v (by simpa using e1) (by simpa using e2))
def gz (rows : List (List Dv)) (i : Nat) : List Dv := rows.getD i (rows.headD [])
theorem iu {rows : List (List Dv)} (h : ∀ r ∈ rows, sig r = sig (rows.headD []) ∧ r ≠ [] ∧ gy (sig r) = true) (i : Nat) : sig (gz rows i) = sig (rows.headD []) ∧ gy (sig (gz rows i)) = true := by
 unfold gz
 cases rows with
 | nil => exact ⟨rfl, rfl⟩
 | cons r rows =>
  by_cases hi : i < (r :: rows).length
  · have e : (r :: rows).getD i ((r :: rows).headD []) = (r :: rows)[i] := by
     unfold List.getD
     rw [List.getElem?_eq_getElem hi]
     rfl
    rw [e]
    have := h _ (List.getElem_mem hi)
    exact ⟨this.1, this.2.2⟩
  · have e : (r :: rows).getD i ((r :: rows).headD []) = r := by
     unfold List.getD
     rw [List.getElem?_eq_none (by omega)]
     rfl
    rw [e]
    exact ⟨rfl, (h r List.mem_cons_self).2.2⟩
theorem wj {rows : List (List Dv)} (h : ∀ r ∈ rows, sig r = sig (rows.headD []) ∧ r ≠ [] ∧ gy (sig r) = true) : Od fun i j => ltL (gz rows i) (gz rows j) where
 ir := fun a => uG _
 tr := fun a b c h1 h2 => uH h1 h2
 nt := fun a b c h1 => uI ((iu h a).1.trans (iu h b).1.symm) ((iu h b).1.trans (iu h c).1.symm) (iu h a).2 h1
theorem jE {rows : List (List Dv)} {i : Nat} {es : List Dv} (h : rows[i]? = some es) : gz rows i = es := by
 unfold gz List.getD
 rw [h]
 rfl
theorem lL (rows : List (List Dv)) : (isortB (fun i j => !(fun i j => ltL (gz rows i) (gz rows j)) j i) (List.range rows.length)).map (gz rows) = isortB (fun a b => !ltL b a) rows := by
 have e : (List.range rows.length).map (gz rows) = rows := by
  apply List.ext_getElem?
  intro i
  by_cases hi : i < rows.length
  · rw [List.getElem?_map, List.getElem?_range hi, List.getElem?_eq_getElem hi]
    show some (gz rows i) = _
    rw [jE (List.getElem?_eq_getElem hi)]
  · rw [List.getElem?_eq_none (by simpa using hi), List.getElem?_eq_none (by omega)]
 rw [nz (le' := fun a b => !ltL b a) (gz rows) _ fun x _ y _ => rfl, e]
theorem call_sortT : CallR X (.builtin "sorted") (fun xs H Q => ∃ a ws rows, xs = [.ref a] ∧ H a = some (.lst ws) ∧ Reps X.K H (rows.map Dv.tup) ws ∧ kL rows = true ∧
 ∀ l ws', H l = none → Reps X.K H ((isortB (fun a b => !ltL b a) rows).map Dv.tup) ws' → Q (.ref l) (upd H l (.lst ws'))) := by
 intro pins s σ H xs us Q I r h
 obtain ⟨a, ws, rows, rfl, h1, h2, h3, q⟩ := h
 obtain ⟨u, rfl, ru⟩ := dQ r
 cases ru
 obtain ⟨z, its, n, rv, hl, e⟩ := I.lstM h1
 simp only [kL, Bool.and_eq_true, decide_eq_true_eq, List.all_eq_true, Bool.not_eq_true', List.isEmpty_eq_false_iff] at h3
 have hr : ∀ r ∈ rows, sig r = sig (rows.headD []) ∧ r ≠ [] ∧ gy (sig r) = true := fun r hr => ⟨(h3.2 r hr).1.1, (h3.2 r hr).1.2, (h3.2 r hr).2⟩
 have hlen : rows.length = its.length := by
  have g1 := g8 h2
  have g2 := rv.length
  simp at g1
  omega
 obtain ⟨fs, f1, f2⟩ := kM I (fun r hr' => (hr r hr').2) h2 rv
 refine sY (vs := its) ⟨_, e, rfl, n, rfl⟩ (by omega) (wj hr) f1 f2 (fun A' i j x y ex ey => ?_) fun L h' tk out ep p g1 g2 g3 g4 g5 g6 g7 => ?_
 · obtain ⟨a1, us1, t1, es1, q1, q2, q3, q4, q5, q6, q7⟩ := qL I i x h2 rv ex
   obtain ⟨a2, us2, t2, es2, p1, p2, p3, p4, p5, p6, p7⟩ := qL I j y h2 rv ey
   have m1 := hr es1 (List.mem_of_getElem? q1)
   have m2 := hr es2 (List.mem_of_getElem? p1)
   obtain ⟨rs, i1, i2⟩ := nF (A := A') (m1.1.trans m2.1.symm) m1.2.2 q4 p4 q5 p5
   refine ⟨a1, a2, t1.toArray, t2.toArray, rs, q3, p3, q7, p7, by simpa using i1, ?_⟩
   have hsz : t1.toArray.size = t2.toArray.size := by
    have k1 := q5.length
    have k2 := p5.length
    have k3 := g8 q4
    have k4 := g8 p4
    have k5 : (sig es1).length = (sig es2).length := by rw [m1.1, m2.1]
    simp [sig] at k5
    simp
    omega
   rw [hsz, decide_eq_false (Nat.lt_irrefl _), i2, jE q1, jE p1]
 · have hws : ws.length = its.length := rv.length
   have hV : Vals ((List.range its.length).map fun k => ws.getD (p k) .non) out := by
    refine ot (by simp [g4]) fun i v u ev eu => ?_
    have hi : i < its.length := by
     have := (List.getElem?_eq_some_iff.mp eu).1
     omega
    rw [g5 i hi] at eu
    rw [List.getElem?_map, List.getElem?_range hi] at ev
    simp only [Option.map_some, Option.some.injEq] at ev
    have hp : p i < ws.length := by rw [hws]; exact g7 i hi
    have e1 : ws[p i]? = some v := by rw [List.getElem?_eq_getElem hp, ← ev]; simp [List.getD, hp]
    obtain ⟨u', e2, r2⟩ := rv.get e1
    rw [e2] at eu
    cases eu
    exact r2
   have hR : Reps X.K H ((isortB (fun a b => !ltL b a) rows).map Dv.tup) ((List.range its.length).map fun k => ws.getD (p k) .non) := by
    rw [← lL rows, hlen, ← g6, List.map_map, List.map_map]
    refine oq (by simp) fun i d v ed ev => ?_
    have hi : i < its.length := by
     have := (List.getElem?_eq_some_iff.mp ed).1
     simpa using this
    rw [List.getElem?_map, List.getElem?_range hi] at ed ev
    simp only [Option.map_some, Option.some.injEq, Function.comp] at ed ev
    have hp : p i < ws.length := by rw [hws]; exact g7 i hi
    have hp' : p i < rows.length := by rw [hlen]; exact g7 i hi
    refine qM h2 (p i) d v ?_ ?_
    · rw [List.getElem?_map, List.getElem?_eq_getElem hp', ← ed, jE (List.getElem?_eq_getElem hp')]
      rfl
    · rw [List.getElem?_eq_getElem hp, ← ev]
      simp [List.getD, hp]
   refine ⟨.ref L, _, I.laid (h' := h') (t' := tk) (o := .lst ((List.range its.length).map fun k => ws.getD (p k) .non)) g3 g2 ?_, rfl, q L _ (I.hok.fresh g2) hR⟩
   exact ⟨line64 (by simp; omega), out, ep, hV, by simpa [seqObj] using g1⟩
end
section
variable {X : Cx} {p pos : Pos} {e : Expr} {es : List Expr} {ga : FnA}
theorem td (hg : Gl X "sorted") (hm : X.mg "sorted" = none) (ha : FA X (e :: es) ga) (he : starEach (e :: es) X.env = (false, eval e X.env) :: starEach es X.env := by kernel_rfl) (hpl : (backTo pos (starEach es X.env)).any (·.1) = false := by kernel_rfl) : FE X (.Call (.Name "sorted" p) (e :: es) [] pos) (fB1 qK ga) :=
 cP (eG (call_sortT.or qm) hg hm (by decide +kernel) ha.h (by decide) (by decide) he hpl) fun σ H Q ρ E o => ⟨ρ, E, OutA.bind o fun ds vs H1 e1 rs o1 => by
  unfold qK at o1
  split at o1
  · rename_i xs
    obtain ⟨v, rfl, r⟩ := da rs
    obtain ⟨a, ws, rfl, h1, h2⟩ := r.lstE
    split at o1
    · rename_i rows hrows
      split at o1
      · rename_i hok
        rw [nB hrows] at h2
        exact .inl ⟨a, ws, rows, rfl, h1, h2, hok, fun l ws' hl' rw' => o1 _ _ (aF hl' _) ⟨l, _, rfl, av, Reps.mono (aF hl' _) _ _ rw'⟩⟩
      · exact o1.elim
    · refine .inr ?_
      have o2 : Out X H1 (match i7 xs with
       | some ns => if ns.length < 64 then some (Rs.ok (Dv.lst (List.map Dv.int (isortB leI ns)))) else none
       | none => match cU xs with
        | some ss => if ss.length < 64 then some (Rs.ok (Dv.lst (List.map Dv.str (isortB leS ss)))) else none
        | none => none) Q := o1
      split at o2
      · rename_i ns hb
        split at o2
        · rename_i hl
          exact ⟨a, ws, xs, rfl, h1, h2, .inl ⟨ns, hb, hl, fun l hl' => o2 _ _ (aF hl' _) ⟨l, _, rfl, av, kw _ _⟩⟩⟩
        · exact o2.elim
      · split at o2
        · rename_i ns hb
          split at o2
          · rename_i hl
            exact ⟨a, ws, xs, rfl, h1, h2, .inr ⟨ns, hb, hl, fun l hl' => o2 _ _ (aF hl' _) ⟨l, _, rfl, av, gr _ _⟩⟩⟩
          · exact o2.elim
        · exact o2.elim
  · exact o1.elim⟩
end
end FD
namespace FD
open PySem PySem.Spec PyProof.Rows L2 PySem.W
def jF (m i N : Nat) (f : FnS) (g : FnE) : FnS := fun ρ => match f ρ with
 | some (.rt d) => some (.rt d)
 | some (.exc c) => if c < m then (match g ((List.replicate N none).set i (some (.exn c))) with
  | some (.ok d) => some (.rt d)
  | _ => none) else none
 | _ => none
section
variable {X : Cx} {hx : Expr} {body : List Stmt} {f : FnS} {g : FnE} {J n : Str} {CJ : Addr} {np rp2 hpos pos : Pos}
theorem wl (m i N : Nat) (hex : X.ex = []) (hst : X.stack = X.env :: X.outer) (hfm : X.env.frame = some X.env.locals) (hgJ : Gl X J) (hmJ : X.mg J = some (.ref CJ)) (KJ : excIn X.K CJ bmV "ValueError.__new__" = true)
 (xk : ∀ c C, c < m → nsIn X.K mainGlobals (xnm c) = some (some (.ref C)) → excIn X.K C bmV "ValueError.__new__" = true ∧ mroIn X.K C (.ref CJ) = some true)
 (hN : X.N.Nodup) (hi : X.N[i]? = some n) (hl : X.env.scope.names.lookup n = some .local) (hNl : X.N.length = N)
 (hb : ∀ pl E', FSs (xu X pl E') body f) (hh : ∀ pl e, FE (kl X pl e) hx g) (hdb : (J == ("__debug__" : Str)) = false := by kernel_rfl) :
 FS X (.Try body [.ExceptHandler (some (.Name J np)) (some n) [.Return (some hx) rp2] hpos] [] [] pos) (jF m i N f g) := by
 constructor
 intro pins s σ H D I ⟨ρ, E, o⟩
 refine wpAny_Try_except ?_
 have hbody := fun E' (h : OutS (xu X pins E') H (f ρ) { nx := fun _ _ => False, rt := D.rt }) => (hb pins E').h [] s σ H { nx := fun _ _ => False, rt := D.rt } (vN I) ⟨ρ, E, h⟩
 refine wpAny_mono (hbody (fun e s₁ => wpAny (model X.prog X.w) X.A (noteFrame e X.env) (fun _ s₂ => wpAny (model X.prog X.w) X.A (setFlight e none) (fun _ s₃ => wpAny (model X.prog X.w) X.A (handleBy e X.env [.ExceptHandler (some (.Name J np)) (some n) [.Return (some hx) rp2] hpos]) (SP X pins D) X.xe s₃) X.xe s₂) X.xe s₁) ?_) (fun fl s1 hs => ?_) fun e s1 hs => hs
 · unfold jF at o
   match hf : f ρ with
   | none => rw [hf] at o; exact o.elim
   | some (.nx _) => rw [hf] at o; exact o.elim
   | some (.rt d) => rw [hf] at o; exact o
   | some (.exc c) =>
    rw [hf] at o
    dsimp only at o
    by_cases hcm : c < m
    · rw [if_pos hcm] at o
      intro ps σ1 H1 s1 ev same I1 ⟨e, C, he, hC, F⟩
      subst he
      have fe : H1 e = none := F.1
      have fn := F.2.1
      refine sD (Y := xu X pins _) I1 hex hst hfm F (E1 := X.xe) (E2 := X.xe) fun h2 Ts a0 k1 k2 k3 k4 k5 => ?_
      have I1' := I1.pins_of (pins' := []) fun p hp => absurd hp (by simp)
      have hf5 : ∀ b, b = e ∨ b ∈ Ts → H1 b = none ∧ X.s₀.heap.get? b = none ∧ (∀ p ∈ (X.pn ++ pins) ++ [], p.1 ≠ b) ∧ ∃ o vs, s1.heap.get? b = some o ∧ o.data = .fields vs := fun b hb => ⟨(k5 b hb).1, (k5 b hb).2.1.1, fun p hp => (k5 b hb).2.1.2 p (by simpa using hp), (k5 b hb).2.2⟩
      have I2 := Inv.aft I1' (mS I1 k1 k4) hex hf5
      have J2 : Inv (kl X pins e) [] σ1 H1 { s1 with heap := h2 } := mW (ik I2)
      have k3' := k3
      obtain ⟨oe, vs, T, oT, ts, t1, ⟨t2, t3⟩, t4, _⟩ := k3'
      obtain ⟨xC, xm⟩ := xk c C hcm hC
      refine wpAny_handleBy_cons (codeAny_handlers_test (h8 (X := kl X pins e) J2 hgJ hmJ ?_ hdb)) (by intro z; cases z)
      refine pR (mg := fun _ => some (.ref C)) (y := n) J2.kIn (pM J2.kIn rfl xC) (pM J2.kIn hmJ KJ) t1 t2 xm ?_
      show codeAny _ _ (.handlers (.ref e) [.ExceptHandler none (some n) [.Return (some hx) rp2] hpos] X.env) _ _
      refine codeAny_handlers_suite_as ?_
      refine wpAny_setFlight_noneW (s := { s1 with heap := h2 }) k1 k2 k3.at fun h3 m1 m2 m3 m4 => ?_
      have A3 : Aft (xu X pins _) e Ts s1.heap h3 := mS I1 m1 fun b o q d => by
       obtain ⟨sl, q'⟩ := k4 b o q d
       exact ⟨sl, m4 b _ q' d⟩
      have I3 := Inv.aft I1' A3 hex hf5
      obtain ⟨oe3, vs3, T3, oT3, ts3, u1, ⟨u2, u3⟩, u4, _⟩ := m3
      have I4 := Inv.freeze I3 fe u1 u4 fn.1 fun p hp => fn.2 p (by simpa using hp)
      have J4 : Inv (kl X pins e) [] σ1 (upd H1 e (.frz oe3 (.ext fun _ => True))) { s1 with heap := h3 } := mW (ik I4)
      refine gU (X := kl X pins e) J4 hN hi (.inl hl) (v := .ref e) rfl (fun s5 J5 => ?_) (.inr hl)
      have rep : Rep X.K (upd H1 e (.frz oe3 (.ext fun _ => True))) (.exn c) (.ref e) := ⟨e, oe3, _, C, rfl, av, u2, hC⟩
      have E5 : Envs X.K (upd H1 e (.frz oe3 (.ext fun _ => True))) (σ1.set i (some (.ref e))) ((List.replicate N none).set i (some (.exn c))) := by
       refine Envs.set (ρ := List.replicate N none) ⟨?_, fun j d hj => ?_⟩ rep
       · rw [I1.len, List.length_replicate]; exact hNl
       · rw [List.getElem?_replicate] at hj
         split at hj <;> cases hj
      match hg : g ((List.replicate N none).set i (some (.exn c))) with
      | none => rw [hg] at o; exact o.elim
      | some (.exc c2) => rw [hg] at o; exact o.elim
      | some (.ok d) =>
       rw [hg] at o
       have hrun := (pr (uf (pos := rp2) (hh pins e))).h [] s5 _ _ { nx := fun _ _ => False, rt := D.rt } J5 ⟨_, E5, (by
        unfold ay
        rw [hg]
        exact fun v H' e1 r => o v H' ((same.trans (aF fe _)).trans e1) r)⟩
       refine wpAny_mono hrun (fun fl s6 hs => ?_) fun _ _ z => z.elim
       cases fl with
       | ret u =>
        obtain ⟨v, σ6, H6, J6, rv, q6⟩ := hs
        have J7 : Inv X pins σ6 H6 s6 := oa I.ok J6
        have hil : i < σ6.length := by rw [J7.len]; exact (List.getElem?_eq_some_iff.mp hi).1
        refine wpAny_bind (wpAny_bindName (gU J7 hN hi (.inl hl) (v := .non) rfl (fun s7 J8 => ?_) (.inr hl)))
        exact pQ J8 hN hi hl (v := .non) (List.getElem?_set_self hil) fun s8 J9 => ⟨v, _, H6, J9, rv, q6⟩
       | next => obtain ⟨_, _, _, z⟩ := hs; exact False.elim z
       | brk => obtain ⟨_, _, _, z⟩ := hs; exact False.elim z
       | cont => obtain ⟨_, _, _, z⟩ := hs; exact False.elim z
    · rw [if_neg hcm] at o
      exact o.elim
 · cases fl with
   | ret u =>
    obtain ⟨v, σ', H', I', rv, q⟩ := hs
    exact ⟨v, σ', H', ik I', rv, q⟩
   | next => obtain ⟨_, _, _, z⟩ := hs; exact False.elim z
   | brk => obtain ⟨_, _, _, z⟩ := hs; exact False.elim z
   | cont => obtain ⟨_, _, _, z⟩ := hs; exact False.elim z
end
theorem wm (K : PySem.W.Frag) (d : Dv) : PySem.W.kitOne K (.type (tyD d)) (.type "list") = some (pY d) := by cases d <;> kernel_rfl
end FD
namespace FD
open PySem PySem.Spec PyProof.Rows L2 TS
section
variable {X : Cx} {pins : List (Addr × Obj)} {σ : L2.St} {H : Hp} {s : Shared} {k : Nat} {f : Addr} {fd : FuncData} {ps : List Str} {F : List Dv → Option (Rs Dv)} {A' : Around} {E : Value → Shared → Prop}
end
end FD
namespace TS
open PySem PyProof.Rows FD
section
variable {prog : Program} {w : World} {A : Around} {E : Value → Shared → Prop} {s : Shared} {blt : Nat → Nat → Bool}
end
end TS
namespace FD
open PySem PySem.Spec PyProof.Rows L2 TS
section
variable {X : Cx} {pins : List (Addr × Obj)} {σ : L2.St} {H : Hp} {s : Shared} {k : Nat} {f : Addr} {fd : FuncData} {ps : List Str} {F : List Dv → Option (Rs Dv)} {A' : Around} {E : Value → Shared → Prop}
end
section
variable {X : Cx} {pins : List (Addr × Obj)} {σ : L2.St} {H : Hp} {s : Shared} {k : Nat} {f : Addr} {fd : FuncData} {ps : List Str} {F : List Dv → Option (Rs Dv)} {A' : Around} {E : Value → Shared → Prop}
end
section
variable {X : Cx} {pins : List (Addr × Obj)} {σ : L2.St} {H : Hp} {s : Shared} {k : Nat} {f : Addr} {fd : FuncData} {ps : List Str} {F : List Dv → Option (Rs Dv)} {E : Value → Shared → Prop}
end
section
variable {X : Cx} {k' n : Nat} {ps : List Str} {x : Str} {p p2 kp pos : Pos} {e : Expr} {F : List Dv → Option (Rs Dv)} {g : FnA}
end
end FD
namespace FD
open PySem PySem.Spec PyProof.Rows L2
section
variable {X : Cx} {p pos : Pos} {e : Expr} {es : List Expr} {ga : FnA}
end
end FD
namespace TS
open PySem PySem.Spec PyProof.Rows L2 FD
def zT (p q : Value) (e l : Bool) : Prop := ∀ (prog : Program) (w : World) (A : Around) (E : Value → Shared → Prop) (s : Shared),
 (∀ Q : Bool → Shared → Prop, Q e s → wpAny (model prog w) A (eqBool p q) Q E s) ∧ (∀ Q : Value → Shared → Prop, Q (.bool l) s → wpAny (model prog w) A (richCompare .Lt p q) Q E s)
inductive qN : List (Value × Value) → List (Bool × Bool) → Prop
 | nil : qN [] []
 | cons {p q : Value} {e l : Bool} {ps : List (Value × Value)} {rs : List (Bool × Bool)} : zT p q e l → qN ps rs → qN ((p, q) :: ps) ((e, l) :: rs)
section
open PySem.SeqAt
open PySem.AutoSeq1 (wpAny_loadPart')
open PySem.MeetsSeq PySem.MeetsSeq2 PySem.MeetsSeq3
end
end TS
namespace FD
open PySem PySem.Spec PyProof.Rows L2 TS
section
variable {X : Cx}
end
end FD
namespace FD
open PySem PySem.Spec PyProof.Rows L2
def aj (X : Cx) (N : List Str) (scope : Scope) (C : Addr) (s : Shared) (H : Hp) (fp : List Addr) : Cx :=
 { X with N := N, s₀ := s, H₀ := H, env := compEnvC scope (cellsFrom (C + 1) scope.names (gQ scope.names X.env [])) C X.env, outer := X.stack, stack := X.stack, ex := fp, fn := fun y => scope.names.lookup y == some .cell, pn := [], xe := fun _ _ => False }
structure iv (osc scope : Scope) (cs : List (Str × Nat)) (N : List Str) : Prop where
 kind : scope.kind = .function
 one : ∀ y ∈ scope.names, y.2 = .cell → scope.names.lookup y.1 = some .cell
 names : ∀ y ∈ scope.names, y.2 = .local → scope.names.lookup y.1 = some .local
 free : ∀ y ∈ scope.names, y.2 = .free → osc.names.lookup y.1 = some .cell ∨ osc.names.lookup y.1 = some .free
 caps : ∀ c ∈ cs, N[c.2]? = some c.1 ∧ scope.names.lookup c.1 = some .free
theorem fY : ∀ (names : List (Str × NameKind)) (lo : Nat) (acc : List (Str × Addr)), cellsFrom lo names acc = cellsFrom lo names [] ++ acc
 | [], _, _ => rfl
 | (n, k) :: r, lo, acc => by
  unfold cellsFrom
  split
  · rw [fY r (lo + 1) ((n, lo) :: acc), fY r (lo + 1) [(n, lo)], List.append_assoc]; rfl
  · exact fY r lo acc
theorem qO : ∀ {names : List (Str × NameKind)} {lo : Nat} {n : Str} {c : Addr}, (n, c) ∈ cellsFrom lo names [] → (n, NameKind.cell) ∈ names
 | [], _, _, _, h => (nomatch h)
 | (m, k) :: r, lo, n, c, h => by
  unfold cellsFrom at h
  split at h
  · rename_i hk
    rw [fY] at h
    rcases List.mem_append.mp h with q | q
    · exact List.mem_cons_of_mem _ (qO q)
    · have e : n = m := by simp at q; exact q.1
      have ek : k = .cell := by simpa using hk
      subst e ek
      exact List.mem_cons_self
  · exact List.mem_cons_of_mem _ (qO h)
theorem nG : ∀ {names : List (Str × NameKind)} {lo : Nat} {n : Str}, (n, NameKind.cell) ∈ names → ((cellsFrom lo names []).lookup n).isSome = true
 | [], _, _, h => (nomatch h)
 | (m, k) :: r, lo, n, h => by
  unfold cellsFrom
  rcases List.mem_cons.mp h with e | q
  · cases e
    rw [if_pos (by decide), fY, List.lookup_append]
    cases hl : (cellsFrom (lo + 1) r []).lookup m with
    | some _ => rfl
    | none => simp
  · split
    · rw [fY, List.lookup_append]
      have := nG (lo := lo + 1) q
      cases hl : (cellsFrom (lo + 1) r []).lookup n with
      | some _ => rfl
      | none => rw [hl] at this; cases this
    · exact nG q
theorem wn {M : Model} {A : Around} {E : Value → Shared → Prop} {s : Shared} {scope : Scope} {globals : Addr} {cl : List (Str × Addr)} {qual : Str} {env : Env} {Q : Env → Shared → Prop} (hk : scope.kind = .function)
 (hQ : Q (newEnv scope s.heap.objs.size globals (cellsFrom (s.heap.objs.size + 1) scope.names cl) qual none .none (some env) builtinsNs) { s with heap := pushCells (s.heap.push { cls := .type "dict", data := .dict #[] }) scope.names }) :
 wpAny M A (newFunctionEnv scope globals cl [] qual none .none (some env)) Q E s := by
 simp only [newFunctionEnv, Option.isSome_some, if_true]
 refine wpAny_bind (wpAny_alloc ?_)
 refine wpAny_bind (wpAny_layCells _ (fun name kind cells => by cases hkc : kind == NameKind.cell <;> simp [hkc]) _ _ _ _ ?_)
 rw [show ({ s with heap := s.heap.push { cls := .type "dict", data := .dict #[] } } : Shared).heap.objs.size = s.heap.objs.size + 1 from Heap.size_push ..]
 refine wpAny_bind ?_
 rw [List.forIn_nil]
 exact wpAny_pure (wpAny_pure hQ)
theorem qP {X : Cx} {pins : List (Addr × Obj)} {σ : L2.St} {H : Hp} {s : Shared} {scope : Scope} {ns : List Str} {cs : List (Str × Nat)} {fp : List Addr} {h₁ : Heap} {C : Addr} {t' : Nat} (ok : iv X.env.scope scope cs X.N) (I : Inv X pins σ H s) (hfp : ∀ b ∈ fp, rJ X pins H b) (hlt : ∀ b ∈ fp, b < s.heap.objs.size)
 (hC : s.heap.objs.size ≤ C) (hns : h₁.Ns C fun _ => none) (old : ∀ b o, s.heap.get? b = some o → h₁.get? b = some o) (hck : CellsOk h₁ (C + 1) (cellsFrom (C + 1) scope.names [])) :
 Inv (aj X (ns ++ cs.map (·.1)) scope C s H fp) [] (kf ns.length cs σ) H { s with heap := h₁, toks := t' } := by
 have cl1 : ∀ n c, (gQ scope.names X.env []).lookup n = some c → X.env.cells.lookup n = some c := fun n c e => by
  rcases iS _ _ e with q | ⟨q1, q2⟩
  · simp at q
  · obtain ⟨c', e'⟩ := I.ok.has n (ok.free _ q1 rfl)
    rw [e'] at q2
    rw [e', q2] <;> rfl
 have lk : ∀ n c, (aj X (ns ++ cs.map (·.1)) scope C s H fp).env.cells.lookup n = some c → (n, c) ∈ cellsFrom (C + 1) scope.names [] ∨ ((n, NameKind.cell) ∉ scope.names ∧ (gQ scope.names X.env []).lookup n = some c) := fun n c e => by
  have e' : (cellsFrom (C + 1) scope.names (gQ scope.names X.env [])).lookup n = some c := e
  rw [fY, List.lookup_append] at e'
  cases hl : (cellsFrom (C + 1) scope.names []).lookup n with
  | some c' => rw [hl] at e'; cases e'; exact .inl (mem_of_lookup hl)
  | none =>
   rw [hl] at e'
   refine .inr ⟨fun hm => ?_, e'⟩
   have := nG (lo := C + 1) hm
   rw [hl] at this
   cases this
 have lk2 : ∀ n c, (n, NameKind.cell) ∉ scope.names → (gQ scope.names X.env []).lookup n = some c → (aj X (ns ++ cs.map (·.1)) scope C s H fp).env.cells.lookup n = some c := fun n c hm e => by
  show (cellsFrom (C + 1) scope.names (gQ scope.names X.env [])).lookup n = some c
  rw [fY, List.lookup_append]
  cases hl : (cellsFrom (C + 1) scope.names []).lookup n with
  | some c' => exact absurd (qO (mem_of_lookup hl)) hm
  | none => exact e
 have big : ∀ n c, (n, c) ∈ cellsFrom (C + 1) scope.names [] → s.heap.objs.size < c := fun n c hm => Nat.lt_of_lt_of_le (Nat.lt_succ_of_le hC) (hck.empty n c hm).2
 have low : ∀ n c, (gQ scope.names X.env []).lookup n = some c → c < s.heap.objs.size := fun n c e => by
  obtain ⟨v, o, ho, _⟩ := I.cell n c (cl1 n c e)
  exact Heap.lt_size ho
 have inj : ∀ y z c, (aj X (ns ++ cs.map (·.1)) scope C s H fp).env.cells.lookup y = some c → (aj X (ns ++ cs.map (·.1)) scope C s H fp).env.cells.lookup z = some c → y = z := fun y z c e1 e2 => by
  rcases lk y c e1 with p | ⟨_, p⟩ <;> rcases lk z c e2 with q | ⟨_, q⟩
  · exact name_of_addr hck.apart p q
  · exact absurd (Nat.lt_trans (big y c p) (low z c q)) (Nat.lt_irrefl _)
  · exact absurd (Nat.lt_trans (big z c q) (low y c p)) (Nat.lt_irrefl _)
  · exact I.ok.inj y z c (cl1 y c p) (cl1 z c q)
 refine ⟨⟨I.ok.mod, ok.kind, I.ok.glob, I.ok.blt, hC, inj, fun y hy => ?_, fun y c hfn e => ?_, I.ok.hd, I.ok.frames, .inl rfl, fun b hb => ⟨fun z => ?_, fun y c e => ?_⟩, I.bs, Nat.le_trans I.ok.bsz I.sz, fun b o e hb => ?_, fun b hb z => ?_, I.stack, I.stkFree⟩,
  rfl, I.bare, Un.kept old, ⟨_, hns, fun i y v h1 h2 h3 => ?_⟩, fun y c e => ?_, I.hok.fresh hC, fun y c e => ?_, fun p hp => absurd (show p ∈ ([] : List (Addr × Obj)) from hp) (by simp), I.hok.kept old, by simp [kf, aj]⟩
 · have hm : (y, NameKind.cell) ∈ scope.names ∨ (y, NameKind.free) ∈ scope.names := by
    rcases hy with hy | hy
    · rcases gL hy with q | ⟨_, q⟩
      · exact .inl q
      · exact .inr q
    · rcases gL hy with q | ⟨q, _⟩
      · exact .inr q
      · cases q
   by_cases hcl : (y, NameKind.cell) ∈ scope.names
   · obtain ⟨c, hc'⟩ := Option.isSome_iff_exists.mp (nG (lo := C + 1) hcl)
     refine ⟨c, ?_⟩
     show (cellsFrom (C + 1) scope.names (gQ scope.names X.env [])).lookup y = some c
     rw [fY, List.lookup_append, hc']
     rfl
   · obtain ⟨c, hc'⟩ := Option.isSome_iff_exists.mp (jv (env := X.env) scope.names [] (hm.resolve_left hcl))
     exact ⟨c, lk2 y c hcl hc'⟩
 · have hfn' : scope.names.lookup y = some .cell := by simpa [aj] using hfn
   rcases lk y c e with p | ⟨p, _⟩
   · exact Nat.le_of_lt (big y c p)
   · exact absurd (di hfn') p
 · have := hlt b hb
   rw [z] at this
   exact absurd (Nat.lt_of_lt_of_le this hC) (Nat.lt_irrefl _)
 · rcases lk y c e with p | ⟨_, p⟩
   · exact fun z => absurd (Nat.lt_trans (big y c p) (z ▸ hlt b hb)) (Nat.lt_irrefl _)
   · exact (hfp b hb).2.2.2.2.1 y c (cl1 y c p)
 · rcases (hfp b hb).2.2.2.1 with z | z
   · exact I.ok.noex b o e z
   · exact absurd (Nat.lt_of_lt_of_le (Heap.lt_size e) (Nat.le_trans I.ok.bsz z)) (Nat.lt_irrefl _)
 · rcases List.mem_cons.mp (I.stkSub b z) with q | q
   · exact (hfp b hb).2.1 q
   · exact (hfp b hb).2.2.1 q
 · obtain ⟨k, rfl, h4⟩ := kg h2
   have h1' : (ns ++ cs.map (·.1))[ns.length + k]? = some y := h1
   rw [List.getElem?_append_right (by simp)] at h1'
   simp only [Nat.add_sub_cancel_left] at h1'
   rw [List.getElem?_map] at h1'
   cases hc : cs[k]? with
   | none => rw [hc] at h1'; simp at h1'
   | some c =>
    rw [hc] at h1'
    have ey : c.1 = y := by simpa using h1'
    subst ey
    rw [List.getElem?_map, hc] at h4
    simp only [Option.map_some, Option.some.injEq] at h4
    have h2' : σ[c.2]? = some (some v) := by
     cases q : σ[c.2]? with
     | none => rw [q] at h4; simp at h4
     | some o => rw [q] at h4; simp at h4; rw [h4]
    obtain ⟨hN, hf⟩ := ok.caps c (List.mem_of_getElem? hc)
    have hv := ok.free _ (di hf) rfl
    obtain ⟨mm, _, hl⟩ := I.loc
    obtain ⟨u, r, l⟩ := hl c.2 c.1 v hN h2' (.inr hv)
    refine ⟨u, r, .inr ⟨gM hf, ?_⟩⟩
    rcases l with ⟨l, _⟩ | ⟨_, a, ha, o, ho, hd⟩
    · have l' : X.env.scope.names.lookup c.1 = some .local := l
      rcases hv with z | z
      · rw [l'] at z; cases z
      · rw [l'] at z; cases z
    · obtain ⟨a', ha'⟩ := Option.isSome_iff_exists.mp (jv (env := X.env) scope.names [] (di hf))
      have e2 := cl1 _ _ ha'
      rw [ha] at e2
      cases e2
      exact ⟨a, lk2 _ _ (fun hm => by have z := ok.one _ hm rfl; rw [hf] at z; cases z) ha', o, old _ _ ho, hd⟩
 · rcases lk y c e with p | ⟨_, p⟩
   · exact ⟨none, (hck.empty y c p).1⟩
   · obtain ⟨v, o, ho, hd⟩ := I.cell y c (cl1 y c p)
     exact ⟨v, o, old _ _ ho, hd⟩
 · rcases lk y c e with p | ⟨_, p⟩
   · exact I.hok.fresh (Nat.le_of_lt (big y c p))
   · exact I.freeC y c (cl1 y c p)
def zU (X : Cx) (ns : List Str) (cs : List (Str × Nat)) (scope : Scope) (D : Addr) (s2 : Shared) (H2 : Hp) (fp : List Addr) (tn : Nat → Heap → Prop) (ds ys : List Dv) (b : Dv → Ev → Option Ev) (tst : Option FnB) (fe : FnE) (ρ : Ev) (m : Nat) (s' : Shared) : Prop :=
 ∃ i σ' H' es vs its, m = ds.length - i ∧ i ≤ ds.length ∧ Inv (aj X (ns ++ cs.map (·.1)) scope (D + 1) s2 H2 fp) [] σ' H' s' ∧ Envs X.K H' σ' (eL ns.length cs ρ) ∧ tn i s'.heap ∧ (∀ b ∈ fp, H' b = none) ∧ H' D = none ∧ LAt s'.heap D its ∧ Vals vs its ∧ Reps X.K H' es vs ∧ es.length ≤ i ∧ Same H2 H' ∧
  (match fj b tst fe (eL ns.length cs ρ) (ds.drop i) with | some zs => es ++ zs = ys | none => False)
theorem jc {X : Cx} {pins : List (Addr × Obj)} {σ : L2.St} {tg elt iter : Expr} {ifs : List Expr} {scope : Scope} {pos : Pos} {ns : List Str} {tst : Option FnB} {fe : FnE} {b : Dv → Ev → Option Ev} {js : List Nat} (cs : List (Str × Nat)) (ok : iv X.env.scope scope cs X.N) (hc : X.calm = true)
 (htg : ∀ C s H fp, FG (aj X (ns ++ cs.map (·.1)) scope C s H fp) tg b) (helt : ∀ C s H fp, FE (aj X (ns ++ cs.map (·.1)) scope C s H fp) elt fe) (hifs : ∀ C s H fp, pC (aj X (ns ++ cs.map (·.1)) scope C s H fp) ifs tst)
 (hback : ∀ ρ d ρ', b d (eL ns.length cs ρ) = some ρ' → fgt js ρ' = eL ns.length cs ρ)
 {ρ : Ev} {s2 : Shared} {it : Addr} {fp : List Addr} {tn : Nat → Heap → Prop} {J : It} {H2 : Hp} (E : Envs X.K H2 σ ρ) (I2 : Inv X pins σ H2 s2) (T : tW X.prog X.w X.K tg J fp it tn) (st2 : tn 0 s2.heap) (f2 : ∀ b ∈ fp, rJ X pins H2 b) {ds ys : List Dv} (wk : WkG X.K J ds H2) (hdl : ds.length ≤ 100000) (hyl : ys.length ≤ 100000) (hm : fj b tst fe (eL ns.length cs ρ) ds = some ys)
 {RR : Value → Addr → Result → Shared → Prop}
 (hRR : ∀ (D C : Addr) (s6 : Shared) (H5 : Hp) (vs : List V) (m6 : Str → Option Value), Inv X pins σ (upd H5 D (.lst vs)) s6 → H5 D = none → Same H2 H5 → Reps X.K H5 ys vs → s6.heap.Ns C m6 → H5 C = none → C ≠ D → s2.heap.objs.size ≤ C → RR (.ref D) C (.ok .next) s6) :
 wpAny (model X.prog X.w) X.A (newList []) (fun acc s₃ => wpAny (model X.prog X.w) X.A (newFunctionEnv scope X.env.globals (gQ scope.names X.env []) [] X.env.qual none .none (some X.env)) (fun cenv s₄ =>
  codeAny (model X.prog X.w) X.A (.compStart (.ListComp elt [⟨tg, iter, ifs, 0⟩] scope pos) 0 (.ref it) acc { cenv with scope := relabel scope X.env }) (RR acc cenv.locals) s₄) X.xe s₃) X.xe s2 := by
 have fplt : ∀ b ∈ fp, b < s2.heap.objs.size := fun b hb => by
  obtain ⟨o, ho, _⟩ := T.obj _ _ st2 b hb
  exact Heap.lt_size ho
 refine wpAny_newObj_type (wn ok.kind ?_)
 dsimp only
 generalize hH2 : s2.heap.push { cls := .type "list", dict := none, data := .seq ([] : List Value).toArray } = P2
 obtain ⟨D, hD⟩ : ∃ D, s2.heap.objs.size = D := ⟨_, rfl⟩
 have hC : P2.objs.size = D + 1 := by rw [← hH2, Heap.size_push, hD]
 rw [hC, hD]
 obtain ⟨h₁, hh₁⟩ : ∃ h, h = pushCells (P2.push { cls := .type "dict", data := .dict #[] }) scope.names := ⟨_, rfl⟩
 rw [← hh₁]
 have kp : ∀ b o, P2.get? b = some o → h₁.get? b = some o := fun b o e => by rw [hh₁]; exact pushCells_keeps _ _ b o (Heap.get?_push_of_some _ e)
 have old : ∀ b o, s2.heap.get? b = some o → h₁.get? b = some o := fun b o e => kp b o (hH2 ▸ Heap.get?_push_of_some _ e)
 have hacc : LAt h₁ D [] := ⟨0, kp _ _ (by rw [← hH2, ← hD]; exact Heap.get?_push_size _ rfl)⟩
 have hns : h₁.Ns (D + 1) fun _ => none := by
  rw [hh₁, ← hC]
  exact (Heap.Ns.new P2 (.type "dict")).keeps (pushCells_keeps _ _)
 have hck : CellsOk h₁ (D + 1 + 1) (cellsFrom (D + 1 + 1) scope.names []) := by
  have q := cellsFrom_ok scope.names (P2.push { cls := .type "dict", data := .dict #[] }) (D + 1 + 1) [] ⟨fun _ _ hm => (nomatch hm), List.Pairwise.nil⟩ (by rw [Heap.size_push, hC]; exact Nat.le_refl _)
  rw [Heap.size_push, hC, ← hh₁] at q
  exact q
 have I4 : Inv (aj X (ns ++ cs.map (·.1)) scope (D + 1) s2 H2 fp) [] (kf ns.length cs σ) H2 { s2 with heap := h₁ } := qP (t' := s2.toks) ok I2 f2 fplt (by rw [hD]; exact Nat.le_succ D) hns old hck
 have E4 : Envs X.K H2 (kf ns.length cs σ) (eL ns.length cs ρ) := pI ns.length cs E
 have HD : H2 D = none := I2.hok.fresh (Nat.le_of_eq hD)
 have fpD : ∀ b ∈ fp, b ≠ D := fun b hb => vk (hD ▸ fplt b hb)
 have loop : ∀ s4 : Shared, s4 = { s2 with heap := h₁ } →
  codeAny (model X.prog X.w) X.A (.compLoop (.ListComp elt [⟨tg, iter, ifs, 0⟩] scope pos) 0 (.ref it) (.ref D) (compEnvC scope (cellsFrom (D + 1 + 1) scope.names (gQ scope.names X.env [])) (D + 1) X.env)) (RR (.ref D) (D + 1)) s4 := by
  rintro s4 rfl
  refine kh (fun k s' => zU X ns cs scope D s2 H2 fp tn ds ys b tst fe ρ k s') ?_ ds.length ⟨0, kf ns.length cs σ, H2, [], [], [], by simp, Nat.zero_le _, I4, E4, T.keep _ _ _ st2 fun b hb o e => old b o e, fun b hb => (f2 b hb).1, HD, hacc, .nil, rfl, Nat.le_refl _, .refl H2, by rw [List.drop_zero, hm]; rfl⟩
  rintro k0 s5 ⟨i, σ5, H5, es, vs, its, rfl, hi5, I5, E5, t5, fr5, D5, l5, v5, r5, hel, e5, hz⟩
  have nC : ∀ b ∈ fp, b ≠ D + 1 := fun b hb => yF (hD ▸ fplt b hb)
  have DL : D ≠ (aj X (ns ++ cs.map (·.1)) scope (D + 1) s2 H2 fp).env.locals := Dx
  have Dcell : ∀ y c, (aj X (ns ++ cs.map (·.1)) scope (D + 1) s2 H2 fp).env.cells.lookup y = some c → c ≠ D := fun y c e z => by
   obtain ⟨v, o, ho, hd⟩ := I5.cell y c e
   obtain ⟨n, q⟩ := l5
   subst z
   rw [q] at ho
   cases ho
   cases hd
  have Dfs : D ∉ (aj X (ns ++ cs.map (·.1)) scope (D + 1) s2 H2 fp).fs := fun z => by
   rcases List.mem_cons.mp (I2.stkSub D z) with q | q
   · have z2 := I2.lt
     rw [hD] at z2
     exact vk z2 q.symm
   · exact I2.nofs (Nat.le_of_eq hD) q
  have Dp : rJ (aj X (ns ++ cs.map (·.1)) scope (D + 1) s2 H2 fp) [] H5 D := ⟨D5, DL, Dfs, .inr (Nat.le_of_eq hD), Dcell, fun p hp => absurd (show p ∈ ([] : List (Addr × Obj)) from hp) (by simp)⟩
  have Dob : ∀ b ∈ [D], ∃ o, s5.heap.get? b = some o ∧ ∀ v, o.data ≠ .cell v := fun b hb => by
   have e : b = D := by simpa using hb
   subst e
   obtain ⟨n, q⟩ := l5
   exact ⟨_, q, fun v z => by cases z⟩
  have I5p : Inv (aj X (ns ++ cs.map (·.1)) scope (D + 1) s2 H2 fp) (cR [D] s5.heap) σ5 H5 s5 := by
   have q := I5.pinned (fp := [D]) (fun b hb => by
    have e : b = D := by simpa using hb
    subst e; exact Dp) Dob
   rw [List.nil_append] at q
   exact q
  have ner : ∀ b ∈ fp, ∀ p ∈ cR [D] s5.heap, p.1 ≠ b := fun b hb p hp z => by
   have e : p.1 = D := by simpa using (ia hp).1
   exact fpD b hb (z.symm.trans e)
  have fp5' : ∀ b ∈ fp, rJ (aj X (ns ++ cs.map (·.1)) scope (D + 1) s2 H2 fp) (cR [D] s5.heap) H5 b := fun b hb => ⟨fr5 b hb, nC b hb, I4.ok.exfs b hb, .inl hb, (I4.ok.exf b hb).2, fun p hp => ner b hb p (by simpa [aj] using hp)⟩
  have lenR : vs.length = es.length := r5.length
  have lenV : vs.length = its.length := v5.length
  by_cases hlt : i < ds.length
  · refine thn (T.item (aj X (ns ++ cs.map (·.1)) scope (D + 1) s2 H2 fp) rfl rfl rfl hc i (cR [D] s5.heap) s5 σ5 H5 _ I5p fp5' t5 (wk.go i H5 e5 hlt)) fun r s6 ⟨u, hr, h6⟩ => ?_
    subst hr
    refine thn h6 fun _ s7 ⟨xv, H7, I7, r7, y7, t7, fr7⟩ => ?_
    obtain ⟨e57, d, hd, rd⟩ := wk.yld i H5 xv H7 e5 hlt y7
    rw [ig hd] at hz
    have I7p := I7.pinned (fp := fp) (fun b hb => ⟨fr7 b hb, nC b hb, I4.ok.exfs b hb, .inl hb, (I4.ok.exf b hb).2, fun p hp => ner b hb p (by simpa [aj] using hp)⟩) (T.obj _ _ t7)
    have fin : ∀ {σ8 : L2.St} {H8 : Hp} {s8 : Shared}, Inv (aj X (ns ++ cs.map (·.1)) scope (D + 1) s2 H2 fp) (cR [D] s5.heap ++ cR fp s7.heap) σ8 H8 s8 → tn (i + 1) s8.heap ∧ (∀ b ∈ fp, H8 b = none) ∧ H8 D = none ∧ LAt s8.heap D its := fun {σ8 H8 s8} I8 => by
     refine ⟨T.keep _ _ _ t7 fun b hb o e => (I8.pin (b, o) (List.mem_append_right _ (List.mem_append_right _ (ci hb e)))).1, fun b hb => ?_, ?_, ?_⟩
     · obtain ⟨o, e, _⟩ := T.obj _ _ t7 b hb
       exact (I8.pin (b, o) (List.mem_append_right _ (List.mem_append_right _ (ci hb e)))).2.1
     · obtain ⟨n, q⟩ := l5
       exact (I8.pin (D, _) (List.mem_append_right _ (List.mem_append_left _ (ci (by simp) q)))).2.1
     · obtain ⟨n, q⟩ := l5
       exact ⟨n, (I8.pin (D, _) (List.mem_append_right _ (List.mem_append_left _ (ci (by simp) q)))).1⟩
    unfold fj at hz
    match hb : b d (eL ns.length cs ρ) with
    | none => rw [hb] at hz; exact hz.elim
    | some ρd =>
     rw [hb] at hz
     dsimp only at hz
     refine wpAny_mono ((htg (D + 1) s2 H2 fp).h _ s7 σ5 H7 xv u d (eL ns.length cs ρ) ρd I7p r7 rd (E5.mono e57) hb) (fun _ s8 ⟨σ8, H8, I8, e78, E8⟩ => ?_) fun _ _ z => False.elim z
     have e58 := e57.trans e78
     have back : ∀ {σ9 : L2.St} {H9 : Hp}, Envs X.K H9 σ9 ρd → Envs X.K H9 σ9 (eL ns.length cs ρ) := fun {σ9 H9} E9 => by
      have q := Envs.fgt js E9
      rw [hback ρ d ρd hb] at q
      exact q
     have took : ∀ {H9 : Hp} {s9 : Shared}, Inv (aj X (ns ++ cs.map (·.1)) scope (D + 1) s2 H2 fp) (cR [D] s5.heap ++ cR fp s7.heap) σ8 H9 s9 → Same H8 H9 →
      (match (match fe ρd with | some (.ok y) => (match fj b tst fe (eL ns.length cs ρ) (ds.drop (i + 1)) with | some ys => some (y :: ys) | none => none) | _ => none) with | some zs => es ++ zs = ys | none => False) →
      wpAny (model X.prog X.w) X.A (eval elt (compEnvC scope (cellsFrom (D + 1 + 1) scope.names (gQ scope.names X.env [])) (D + 1) X.env)) (fun xw s₄ =>
       wpAny (model X.prog X.w) X.A (call (.builtin "list.append") [.ref D, xw]) (fun _ s₅ => ∃ k, k < ds.length - i ∧ zU X ns cs scope D s2 H2 fp tn ds ys b tst fe ρ k s₅) (notedBy (model X.prog X.w) X.A (compEnvC scope (cellsFrom (D + 1 + 1) scope.names (gQ scope.names X.env [])) (D + 1) X.env) fun e s' => RR (.ref D) (D + 1) (.error e) s') s₄) (notedBy (model X.prog X.w) X.A (compEnvC scope (cellsFrom (D + 1 + 1) scope.names (gQ scope.names X.env [])) (D + 1) X.env) fun e s' => RR (.ref D) (D + 1) (.error e) s') s9 := fun {H9 s9} I9 e9 hz9 => by
      match hfe : fe ρd, hz9 with
      | none, hz9 => exact hz9.elim
      | some (.exc c), hz9 => exact hz9.elim
      | some (.ok y), hz9 =>
       refine wpAny_mono ((helt (D + 1) s2 H2 fp).h _ s9 σ8 H9 (fun v H10 => Same H9 H10 ∧ Rep X.K H10 y v) I9 ⟨ρd, E8.mono e9, by rw [hfe]; exact fun v H10 e10 r10 => ⟨e10, r10⟩⟩) (fun w s10 ⟨yv, H10, I10, rw10, e10, r10⟩ => ?_) fun _ _ z => False.elim z
       obtain ⟨t10, fr10, D10, l10⟩ := fin I10
       refine nY l10 (by omega) fun h11 l11 k11 => ?_
       have I10' : Inv (aj X (ns ++ cs.map (·.1)) scope (D + 1) s2 H2 fp) (cR fp s7.heap) σ8 H10 s10 := I10.pins_of fun p hp => I10.pin p (List.mem_append_right _ (List.mem_append_right _ hp))
       have I11 : Inv (aj X (ns ++ cs.map (·.1)) scope (D + 1) s2 H2 fp) (cR fp s7.heap) σ8 H10 { s10 with heap := h11 } := I10'.turned (t' := s10.toks) k11 D10 DL (.inr (Nat.le_of_eq hD)) Dcell fun p hp z => by
        have hp' : p ∈ cR fp s7.heap := by simpa [aj] using hp
        exact fpD p.1 (ia hp').1 z
       have e80 := e9.trans e10
       refine ⟨ds.length - (i + 1), by omega, i + 1, σ8, H10, es ++ [y], vs ++ [yv], its ++ [w], rfl, hlt, I11.pins_of fun p hp => absurd hp (by simp), back (E8.mono e80), T.keep _ _ _ t10 fun b hb o e => k11 b o (fpD b hb) e, fr10, D10, l11, v5.append (.cons rw10 .nil), (Reps.mono (e58.trans e80) _ _ r5).append ⟨yv, [], rfl, r10, rfl⟩, by rw [List.length_append, List.length_singleton]; omega, e5.trans (e58.trans e80), ?_⟩
       match hm2 : fj b tst fe (eL ns.length cs ρ) (ds.drop (i + 1)), hz9 with
       | none, hz9 => exact hz9.elim
       | some zs, hz9 => dsimp only at hz9 ⊢; rw [List.append_assoc]; exact hz9
     have hif := hifs (D + 1) s2 H2 fp
     cases tst with
     | none =>
      cases (show ifs = [] from hif)
      exact wpAny_tests_nil (by rw [if_pos rfl]; exact took I8 (.refl H8) hz)
     | some t =>
      obtain ⟨c, rfl, hct⟩ := hif
      match htt : t ρd, hz with
      | none, hz => simp only [htt] at hz
      | some (.exc c), hz => simp only [htt] at hz
      | some (.ok true), hz =>
       simp only [htt] at hz
       refine wpAny_tests_one (wpAny_mono (hct.h _ s8 σ8 H8 (fun b H9 => b = true ∧ Same H8 H9) I8 ⟨_, E8, by rw [htt]; exact fun H9 e9 => ⟨rfl, e9⟩⟩) (fun b s9 ⟨H9, I9, hb, e9⟩ => ?_) fun _ _ z => False.elim z)
       subst hb
       rw [if_pos rfl]
       exact took I9 e9 hz
      | some (.ok false), hz =>
       simp only [htt] at hz
       refine wpAny_tests_one (wpAny_mono (hct.h _ s8 σ8 H8 (fun b H9 => b = false ∧ Same H8 H9) I8 ⟨_, E8, by rw [htt]; exact fun H9 e9 => ⟨rfl, e9⟩⟩) (fun b s9 ⟨H9, I9, hb, e9⟩ => ?_) fun _ _ z => False.elim z)
       subst hb
       rw [if_neg Bool.false_ne_true]
       obtain ⟨t9, fr9, D9, l9⟩ := fin I9
       exact ⟨ds.length - (i + 1), by omega, i + 1, σ8, H9, es, vs, its, rfl, hlt, I9.pins_of fun p hp => absurd hp (by simp), back (E8.mono e9), t9, fr9, D9, l9, v5, Reps.mono (e58.trans e9) _ _ r5, by omega, e5.trans (e58.trans e9), hz⟩
  · have hi' : i = ds.length := by omega
    subst hi'
    rw [List.drop_length] at hz
    have hz' : es ++ [] = ys := hz
    rw [List.append_nil] at hz'
    subst hz'
    refine thn (T.done (aj X (ns ++ cs.map (·.1)) scope (D + 1) s2 H2 fp) rfl rfl rfl hc ds.length (cR [D] s5.heap) s5 σ5 H5 _ I5p fp5' t5 (wk.stop H5 e5)) fun r s6 ⟨hr, I6⟩ => ?_
    subst hr
    have l6 : LAt s6.heap D its := by
     obtain ⟨n, q⟩ := l5
     exact ⟨n, (I6.pin (D, _) (List.mem_append_right _ (ci (by simp) q))).1⟩
    obtain ⟨m6, n6, _⟩ := I6.loc
    have C6 : H5 (D + 1) = none := I6.free
    have new : ObjOk X.prog X.w (upd H5 D (.lst vs)) s6.heap D (.lst vs) := by
     obtain ⟨n, q⟩ := l6
     exact ⟨by rw [lenR]; exact bO hyl, its, n, v5, q⟩
    have u6 : Un (L2.frs X.stack) fp H2 H5 s2.heap s6.heap := I6.base
    have nD : ∀ b o, s2.heap.get? b = some o → b ≠ D := fun b o e => by
     have hb : b < D := by rw [← hD]; exact Heap.lt_size e
     exact vk hb
    have u7 : Un (L2.frs X.stack) fp H2 (upd H5 D (.lst vs)) s2.heap s6.heap := ⟨u6.keep, u6.slot, fun b o e n hx => by rw [az (nD b o e)]; exact u6.free b o e n hx, u6.there, fun b xs q => by
     have q' := u6.tups b xs q
     rw [az (aB q' D5)]; exact q', fun b o u q => by
     have q' := u6.frzs b o u q
     rw [az (aB q' D5)]; exact q', fun b ps q => by
     obtain ⟨more, q'⟩ := u6.tbls b ps q
     exact ⟨more, by rw [az (aB q' D5)]; exact q'⟩⟩
    have I7 : Inv X pins σ (upd H5 D (.lst vs)) s6 := I2.call' (s' := s6) (ch := fp) I6.os u7 (HOk.add I6.hok D5 C6 (fun b u _ q => q) new) I6.bare fun b hb => ⟨(f2 b hb).2.2.2.1, (f2 b hb).2.1, (f2 b hb).2.2.2.2.1, (f2 b hb).2.2.2.2.2⟩
    exact hRR D (D + 1) s6 H5 vs m6 I7 D5 e5 r5 n6 C6 (Ne.symm Dx) (by rw [hD]; exact Nat.le_succ D)
 exact codeAny_compStart_list (loop _ rfl) (T.self _ 0 _ _ _ (T.keep _ _ _ st2 fun b hb o e => old b o e) (loop _ rfl))
theorem jG {X : Cx} {tg elt iter : Expr} {ifs : List Expr} {scope : Scope} {pos : Pos} {src : FnA} {tst : Option FnB} {fe : FnE} {b : Dv → Ev → Option Ev} (osc : Scope) (N ns : List Str) (js : List Nat) (cs : List (Str × Nat)) (hosc : X.env.scope = osc) (hN : X.N = N) (ok : iv osc scope cs N) (hcl : closureFor scope X.env = pure (gQ scope.names X.env [])) (hc : X.calm = true)
 (hback : ∀ ρ d ρ', b d (eL ns.length cs ρ) = some ρ' → fgt js ρ' = eL ns.length cs ρ)
 (hi : FIG X tg iter src) (htg : ∀ C s H fp, FG (aj X (ns ++ cs.map (·.1)) scope C s H fp) tg b) (helt : ∀ C s H fp, FE (aj X (ns ++ cs.map (·.1)) scope C s H fp) elt fe) (hifs : ∀ C s H fp, pC (aj X (ns ++ cs.map (·.1)) scope C s H fp) ifs tst)
 (hs : ∀ x, foldedSetIterable iter X.env x = pure x := by intro _; kernel_rfl) : FE X (.ListComp elt [⟨tg, iter, ifs, 0⟩] scope pos) (aU ns.length cs src b tst fe) := by
 subst hosc hN
 constructor
 intro pins s σ H Q I h
 obtain ⟨ρ, E, o⟩ := h
 match ho : aU ns.length cs src b tst fe ρ with
 | none => rw [ho] at o; exact o.elim
 | some r =>
  rw [ho] at o
  rw [eval_ListComp]
  have key : OutG X H (src ρ) fun J H' => ∃ ds ys, Same H H' ∧ WkG X.K J ds H' ∧ ds.length ≤ 100000 ∧ ys.length ≤ 100000 ∧ fj b tst fe (eL ns.length cs ρ) ds = some ys ∧ (∀ v H'', Same H' H'' → Rep X.K H'' (.lst ys) v → Q v H'') := by
   rcases B1 ho with ⟨c, e1, e2⟩ | ⟨ds, ys, e1, e2, l1, l2, e3⟩
   · subst e2; rw [e1]; exact o
   · subst e3; rw [e1]; exact fun J H' e wk => ⟨ds, ys, e, wk, l1, l2, e2, fun v H'' e2 r => o v H'' (e.trans e2) r⟩
  refine wpAny_comprehension_free (use := none) rfl hs hcl ok.kind ok.names (thn (hi.h pins s σ H _ I ⟨ρ, E, key⟩) fun v s1 h1 => thn h1 fun itv s2 h2 => ?_)
  obtain ⟨it, fp, tn, J, H2, e, I2, T, st2, f2, ds, ys, e12, wk, hdl, hyl, hm, hQ⟩ := h2
  subst e
  refine jc cs ok hc htg helt hifs hback (E.mono e12) I2 T st2 f2 wk hdl hyl hm (RR := fun acc C => compPost (model X.prog X.w) X.A X.xe none (EP X pins σ Q) acc C) fun D C s6 H5 vs m6 I6 D5 e5 r5 n6 C6 CD hC => ?_
  refine ⟨m6, n6, fun h7 sb7 => ?_⟩
  have Cn : (upd H5 D (.lst vs)) C = none := by rw [az CD]; exact C6
  obtain ⟨q0, q1, q2, q3, q4, q5⟩ := I2.fpOk hC Cn
  have I7 : Inv X pins σ (upd H5 D (.lst vs)) { s6 with heap := h7 } := I6.turned (t' := s6.toks) (fun b o hb e => sb7.extBut b o hb e) q0 q1 q3 q4 q5
  exact ⟨.ref D, _, I7, rfl, hQ _ _ (e5.trans (aF D5 _)) ⟨D, vs, rfl, av, Reps.mono (aF D5 _) _ _ r5⟩⟩
theorem nH {X : Cx} {tg elt iter : Expr} {ifs : List Expr} {scope : Scope} {pos : Pos} {src : FnA} {tst : Option FnB} {fe : FnE} {b : Dv → Ev → Option Ev} {y : Str} {py spos : Pos} (i : Nat) (hnd : X.N.Nodup) (hiy : X.N[i]? = some y) (hxy : Loc X.env.scope y) (hfy : X.fn y = true ∨ X.env.scope.names.lookup y = some .local)
 (osc : Scope) (N ns : List Str) (js : List Nat) (cs : List (Str × Nat)) (hosc : X.env.scope = osc) (hN : X.N = N) (ok : iv osc scope cs N) (hcl : closureFor scope X.env = pure (gQ scope.names X.env [])) (hc : X.calm = true)
 (hback : ∀ ρ d ρ', b d (eL ns.length cs ρ) = some ρ' → fgt js ρ' = eL ns.length cs ρ)
 (hi : FIG X tg iter src) (htg : ∀ C s H fp, FG (aj X (ns ++ cs.map (·.1)) scope C s H fp) tg b) (helt : ∀ C s H fp, FE (aj X (ns ++ cs.map (·.1)) scope C s H fp) elt fe) (hifs : ∀ C s H fp, pC (aj X (ns ++ cs.map (·.1)) scope C s H fp) ifs tst)
 (hsw : swapsWith (.ListComp elt [⟨tg, iter, ifs, 0⟩] scope pos) (some (.Name y py)) spos.line X.env = pure true := by kernel_rfl)
 (hs : ∀ x, foldedSetIterable iter X.env x = pure x := by intro _; kernel_rfl) : PS X (.Assign [.Name y py] (.ListComp elt [⟨tg, iter, ifs, 0⟩] scope pos) spos) (tC X i (aU ns.length cs src b tst fe)) := by
 subst hosc hN
 intro pins s σ H D0 I h
 obtain ⟨ρ, E, o⟩ := h
 match ho : aU ns.length cs src b tst fe ρ with
 | none => rw [ho] at o; exact o.elim
 | some r =>
  rw [ho] at o
  have key : OutG X H (src ρ) fun J H' => ∃ ds ys, Same H H' ∧ WkG X.K J ds H' ∧ ds.length ≤ 100000 ∧ ys.length ≤ 100000 ∧ fj b tst fe (eL ns.length cs ρ) ds = some ys ∧ (∀ H5 p vs, Same H' H5 → H5 p = none → Reps X.K H5 ys vs → D0.nx (σ.set i (some (.ref p))) (upd H5 p (.lst vs))) := by
   rcases B1 ho with ⟨c, e1, e2⟩ | ⟨ds, ys, e1, e2, l1, l2, e3⟩
   · subst e2; rw [e1]; exact o
   · subst e3; rw [e1]; obtain ⟨ys', ey, o⟩ := o; cases ey; exact fun J H' e wk => ⟨ds, ys, e, wk, l1, l2, e2, fun H5 p vs e3 hp r => o H5 p vs (e.trans e3) hp r⟩
  rw [exec_Assign_Name_used _ _ _ _ hsw]
  refine wpAny_bind (wpAny_standAt (wpAny_bind ?_))
  show wpAny _ X.A (do let _ ← comprehension (.ListComp elt [⟨tg, iter, ifs, 0⟩] scope pos) scope X.env _ (newList []) false (eval iter X.env) (some (assign (.Name y py) X.env))) _ _ s
  refine wpAny_bind (wpAny_mono (wpAny_comprehension_free (use := some (assign (.Name y py) X.env)) (Q := fun _ s' => SP X pins D0 .next s') rfl hs hcl ok.kind ok.names
   (thn (hi.h pins s σ H _ I ⟨ρ, E, key⟩) fun v s1 h1 => thn h1 fun itv s2 h2 => ?_)) (fun _ s' hq => wpAny_pure (wpAny_pure hq)) fun _ _ e => e)
  obtain ⟨it, fp, tn, J, H2, e, I2, T, st2, f2, ds, ys, e12, wk, hdl, hyl, hm, hQ⟩ := h2
  subst e
  refine jc cs ok hc htg helt hifs hback (E.mono e12) I2 T st2 f2 wk hdl hyl hm (RR := fun acc C => compPost (model X.prog X.w) X.A X.xe (some (assign (.Name y py) X.env)) (fun _ s' => SP X pins D0 .next s') acc C) fun D C s6 H5 vs m6 I6 D5 e5 r5 n6 C6 CD hC => ?_
  have Cn : (upd H5 D (.lst vs)) C = none := by rw [az CD]; exact C6
  have FC := I2.fpOk hC Cn
  obtain ⟨oC, es, ep, hoC, hdC, rC⟩ := id n6
  have I6p := I6.pinned (fp := [C]) (fun b hb => by
   have e : b = C := by simpa using hb
   subst e; exact FC) (fun b hb => by
   have e : b = C := by simpa using hb
   subst e
   exact ⟨oC, hoC, fun v z => by rw [hdC] at z; cases z⟩)
  refine thn (gl hnd hiy hxy hfy _ s6 σ _ (.ref D) (.ref D) (fun σ' H' => σ' = σ.set i (some (.ref D)) ∧ H' = upd H5 D (.lst vs)) I6p rfl ⟨rfl, rfl⟩) fun _ s8 ⟨σ8, H8, I8, e1, e2⟩ => ?_
  subst e1 e2
  have hC8 := (I8.pin (C, oC) (List.mem_append_right _ (List.mem_append_right _ (ci (by simp) hoC)))).1
  refine ⟨m6, ⟨oC, es, ep, hC8, hdC, rC⟩, fun h9 sb9 => ?_⟩
  have I8' : Inv X pins (σ.set i (some (.ref D))) (upd H5 D (.lst vs)) s8 := I8.unpinned
  obtain ⟨q0, q1, q2, q3, q4, q5⟩ := FC
  have I9 : Inv X pins (σ.set i (some (.ref D))) (upd H5 D (.lst vs)) { s8 with heap := h9 } := I8'.turned (t' := s8.toks) (fun b o hb e => sb9.extBut b o hb e) q0 q1 q3 q4 q5
  exact ⟨_, _, I9, hQ H5 D vs e5 D5 r5⟩
abbrev bP := List (Str × Nat × List Str × (List Dv → Option (Rs Dv)))
theorem fZ {β : Type} {x y : Str} {e e' : β} {T : List (Str × β)} (h : ((y, e) :: T).lookup x = some e') : (x = y ∧ e' = e) ∨ T.lookup x = some e' := by
 rw [List.lookup_cons] at h
 split at h
 · rename_i hb
   exact .inl ⟨eq_of_beq hb, by cases h; rfl⟩
 · exact .inr h
section
variable {P : Program} {w : World} {K : PySem.W.Frag} {mg : Str → Option Value} {base : Heap} {T : bP} {y : Str} {k : Nat} {ps : List Str} {F : List Dv → Option (Rs Dv)}
structure HA (P : Program) (w : World) (K : PySem.W.Frag) (mg : Str → Option Value) (base : Heap) (T : bP) : Prop where
 h : ∀ x e, T.lookup x = some e → Has P w K mg base x e.1 e.2.1 e.2.2
structure HAE (P : Program) (w : World) (K : PySem.W.Frag) (mg : Str → Option Value) (base : Heap) (T : bP) : Prop where
 h : ∀ x e, T.lookup x = some e → AZ P w K mg base x e.1 e.2.1 e.2.2
structure HAM (P : Program) (w : World) (K : PySem.W.Frag) (mg : Str → Option Value) (base : Heap) (T : bP) : Prop where
 h : ∀ x e, T.lookup x = some e → A0 P w K mg base x e.1 e.2.1 e.2.2
theorem zV : HA P w K mg base [] := ⟨fun _ _ h => by cases h⟩
theorem wo : HAE P w K mg base [] := ⟨fun _ _ h => by cases h⟩
theorem wp : HAM P w K mg base [] := ⟨fun _ _ h => by cases h⟩
theorem aq (h : Has P w K mg base y k ps F) (t : HA P w K mg base T) : HA P w K mg base ((y, k, ps, F) :: T) := ⟨fun x e q => by
 rcases fZ q with ⟨rfl, rfl⟩ | q
 · exact h
 · exact t.h x e q⟩
theorem dH (h : AZ P w K mg base y k ps F) (t : HAE P w K mg base T) : HAE P w K mg base ((y, k, ps, F) :: T) := ⟨fun x e q => by
 rcases fZ q with ⟨rfl, rfl⟩ | q
 · exact h
 · exact t.h x e q⟩
theorem tf (h : A0 P w K mg base y k ps F) (t : HAM P w K mg base T) : HAM P w K mg base ((y, k, ps, F) :: T) := ⟨fun x e q => by
 rcases fZ q with ⟨rfl, rfl⟩ | q
 · exact h
 · exact t.h x e q⟩
abbrev zW := List (Str × Option Dv)
def cN (s : String) : Str × Option Dv := (Str.ofString s, none)
def cI (s : String) (i : Int) : Str × Option Dv := (Str.ofString s, some (.int i))
def cS (s z : String) : Str × Option Dv := (Str.ofString s, some (.str (Str.ofString z)))
def El (mg : Str → Option Value) (x : Str) : Option Dv → Prop
 | none => mg x = none
 | some (.int i) => ∃ t, mg x = some (.int i t)
 | some (.str z) => ∃ t, mg x = some (.str z t)
 | _ => False
structure MA (mg : Str → Option Value) (C : zW) : Prop where
 h : ∀ x o, C.lookup x = some o → El mg x o
theorem MA.no {C : zW} {x : Str} (h : MA mg C) (e : C.lookup x = some none) : mg x = none := h.h x none e
def Cp (K : PySem.W.Frag) (q : Str × Option Dv) : Bool := match q.2, PySem.W.nsIn K mainGlobals q.1 with
 | none, some none => true
 | some (.int i), some (some (.int j _)) => i == j
 | some (.str z), some (some (.str y _)) => z == y
 | _, _ => false
theorem zX {h : Heap} (X : K.In h) (G : h.Ns mainGlobals mg) : ∀ (C : zW), C.all (Cp K) = true → MA mg C
 | [], _ => ⟨fun x o q => by cases q⟩
 | (y, o) :: C, e => ⟨fun x o' q => by
  rw [List.all_cons, Bool.and_eq_true] at e
  rcases fZ q with ⟨rfl, rfl⟩ | q
  · have h1 := e.1
    unfold Cp at h1
    dsimp only at h1
    split at h1
    · rename_i e1
      exact PySem.W.mg_none_of X G e1
    · rename_i i j t e1
      have hij : i = j := eq_of_beq h1
      subst hij
      exact ⟨t, PySem.W.mg_of X G e1⟩
    · rename_i z y t e1
      have hij : z = y := eq_of_beq h1
      subst hij
      exact ⟨t, PySem.W.mg_of X G e1⟩
    · cases h1
  · exact (zX X G C e.2).h x o' q⟩
end
section
variable {X : Cx} {T : bP} {C : zW} {k' n : Nat} {x : Str} {p pos : Pos} {e : Expr} {es : List Expr} {F : List Dv → Option (Rs Dv)} {g : FnA}
theorem tj (hT : HA X.prog X.w X.K X.mg X.base T) (hr : Room k' X.A) (hF : (T.lookup x).map (fun q => q.2.2) = some F) (ha : FA X (e :: es) g) (hk : ((T.lookup x).all fun q => Nat.ble q.1 k' && Nat.beq n q.2.1.length) = true := by kernel_rfl) (hg : X.env.kindOf x = some .globalImplicit := by kernel_rfl) (hdb : (x == ("__debug__" : Str)) = false := by kernel_rfl)
 (he : starEach (e :: es) X.env = (false, eval e X.env) :: starEach es X.env := by kernel_rfl) (hpl : (backTo pos (starEach es X.env)).any (·.1) = false := by kernel_rfl) :
 FE X (.Call (.Name x p) (e :: es) [] pos) (ag F n g) := by
 cases hq : T.lookup x with
 | none => rw [hq] at hF; cases hF
 | some q =>
  rw [hq] at hF hk
  cases hF
  rw [Option.all_some, Bool.and_eq_true] at hk
  exact r9 q.1 q.2.1 q.2.2 (hT.h x q hq) hr (Nat.le_of_ble_eq_true hk.1) hg ha (Nat.eq_of_beq_eq_true hk.2) hdb he hpl
theorem qQ (hT : HAE X.prog X.w X.K X.mg X.base T) (hr : Room k' X.A) (hF : (T.lookup x).map (fun q => q.2.2) = some F) (hex : X.ex = []) (ha : FA X (e :: es) g) (hk : ((T.lookup x).all fun q => Nat.ble q.1 k' && Nat.beq n q.2.1.length) = true := by kernel_rfl) (hg : X.env.kindOf x = some .globalImplicit := by kernel_rfl) (hdb : (x == ("__debug__" : Str)) = false := by kernel_rfl)
 (he : starEach (e :: es) X.env = (false, eval e X.env) :: starEach es X.env := by kernel_rfl) (hpl : (backTo pos (starEach es X.env)).any (·.1) = false := by kernel_rfl) :
 FE X (.Call (.Name x p) (e :: es) [] pos) (aA F n g) := by
 cases hq : T.lookup x with
 | none => rw [hq] at hF; cases hF
 | some q =>
  rw [hq] at hF hk
  cases hF
  rw [Option.all_some, Bool.and_eq_true] at hk
  exact sw q.1 q.2.1 q.2.2 (hT.h x q hq) hr (Nat.le_of_ble_eq_true hk.1) hex hg ha (Nat.eq_of_beq_eq_true hk.2) hdb he hpl
theorem qR (hT : HAM X.prog X.w X.K X.mg X.base T) (hr : RoomM k' X.A) (hF : (T.lookup x).map (fun q => q.2.2) = some F) (ha : FA X (e :: es) g) (hk : ((T.lookup x).all fun q => Nat.ble q.1 k' && Nat.beq n q.2.1.length) = true := by kernel_rfl) (hg : X.env.kindOf x = some .globalImplicit := by kernel_rfl) (hdb : (x == ("__debug__" : Str)) = false := by kernel_rfl)
 (he : starEach (e :: es) X.env = (false, eval e X.env) :: starEach es X.env := by kernel_rfl) (hpl : (backTo pos (starEach es X.env)).any (·.1) = false := by kernel_rfl) :
 FE X (.Call (.Name x p) (e :: es) [] pos) (ag F n g) := by
 cases hq : T.lookup x with
 | none => rw [hq] at hF; cases hF
 | some q =>
  rw [hq] at hF hk
  cases hF
  rw [Option.all_some, Bool.and_eq_true] at hk
  exact sC q.1 q.2.1 q.2.2 (hT.h x q hq) hr (Nat.le_of_ble_eq_true hk.1) hg ha (Nat.eq_of_beq_eq_true hk.2) hdb he hpl
theorem Cq {i : Int} (hM : MA X.mg C) (hl : C.lookup x = some (some (.int i))) (hg : X.env.kindOf x = some .globalImplicit := by kernel_rfl) (hd : (x == ("__debug__" : Str)) = false := by kernel_rfl) : FE X (.Name x pos) (fC (.int i)) :=
 let ⟨_, h⟩ := hM.h x _ hl
 vd hg h hd
theorem Cr {z : Str} (hM : MA X.mg C) (hl : C.lookup x = some (some (.str z))) (hg : X.env.kindOf x = some .globalImplicit := by kernel_rfl) (hd : (x == ("__debug__" : Str)) = false := by kernel_rfl) : FE X (.Name x pos) (fC (.str z)) :=
 let ⟨_, h⟩ := hM.h x _ hl
 ve hg h hd
def ndB : List Str → Bool
 | [] => true
 | x :: r => !(r.contains x) && ndB r
theorem gR : ∀ {l : List Str}, ndB l = true → l.Nodup
 | [], _ => List.nodup_nil
 | x :: r, h => by
  unfold ndB at h
  rw [Bool.and_eq_true] at h
  refine List.nodup_cons.2 ⟨fun hx => ?_, gR h.2⟩
  have h1 := h.1
  rw [List.contains_iff_mem.2 hx] at h1
  cases h1
def hU (sc : Scope) (x : Str) : Bool := match sc.names.lookup x with
 | some .local => true
 | some .cell => true
 | _ => false
theorem eX {sc : Scope} {x : Str} (h : hU sc x = true) : Loc sc x := by
 unfold hU at h
 split at h
 · exact .inl ‹_›
 · exact .inr ‹_›
 · cases h
def uJ (osc scope : Scope) (cs : List (Str × Nat)) (N : List Str) : Bool :=
 decide (scope.kind = .function) && decide (∀ y ∈ scope.names, y.2 = .cell → scope.names.lookup y.1 = some .cell) && decide (∀ y ∈ scope.names, y.2 = .local → scope.names.lookup y.1 = some .local) && decide (∀ y ∈ scope.names, y.2 = .free → osc.names.lookup y.1 = some .cell ∨ osc.names.lookup y.1 = some .free) && decide (∀ c ∈ cs, N[c.2]? = some c.1 ∧ scope.names.lookup c.1 = some .free)
theorem kN {osc scope : Scope} {cs : List (Str × Nat)} {N : List Str} (h : uJ osc scope cs N = true) : iv osc scope cs N := by
 unfold uJ at h
 simp only [Bool.and_eq_true, decide_eq_true_eq] at h
 exact ⟨h.1.1.1.1, h.1.1.1.2, h.1.1.2, h.1.2, h.2⟩
theorem lkc {env : Env} : ∀ {names : List (Str × NameKind)} {x : Str}, names.lookup x = some .cell →
 (names.map fun (n, k) => if (k == NameKind.free && env.scope.kind == .function && env.kindOf n == some .cell) then (n, NameKind.cell) else (n, k)).lookup x = some .cell
 | [], _, h => by simp at h
 | (n, k) :: r, x, h => by
  rw [List.lookup_cons] at h
  rw [List.map_cons]
  cases hx : x == n with
  | true =>
   rw [hx] at h
   cases h
   simp [List.lookup_cons, hx]
  | false =>
   rw [hx] at h
   have ih := lkc (env := env) h
   dsimp only
   split
   · rw [List.lookup_cons, hx]; exact ih
   · rw [List.lookup_cons, hx]; exact ih
theorem fgL {X : Cx} {N : List Str} {scope : Scope} {C : Addr} {s : Shared} {H : Hp} {fp : List Addr} {x : Str} (h : hU scope x = true) : Loc (aj X N scope C s H fp).env.scope x ∧ ((aj X N scope C s H fp).fn x = true ∨ (aj X N scope C s H fp).env.scope.names.lookup x = some .local) := by
 rcases eX h with h | h
 · exact ⟨.inl (lookup_relabel_local h), .inr (lookup_relabel_local h)⟩
 · exact ⟨.inr (lkc h), .inl (by show (scope.names.lookup x == some .cell) = true; rw [h]; rfl)⟩
end
section
variable {X : Cx} {elt iter : Expr} {ifs : List Expr} {scope : Scope} {pos px py pt spos : Pos} {src : FnA} {tst : Option FnB} {fe : FnE} {cs : List (Str × Nat)} {x y z : Str} {i : Nat} {k : Nat}
theorem fgA {N : List Str} (C : Addr) (s : Shared) (H : Hp) (fp : List Addr) (hnd : ndB N = true) (hx : N[0]? = some x) (hl : hU scope x = true) : FG (aj X N scope C s H fp) (.Name x px) (gN 0) :=
 vH 0 (gR hnd) hx (fgL hl).1 (fgL hl).2
theorem Ct (hi : FIG X (.Name x px) iter src) (helt : ∀ C s H fp, FE (aj X (x :: cs.map (·.1)) scope C s H fp) elt fe) (hifs : ∀ C s H fp, pC (aj X (x :: cs.map (·.1)) scope C s H fp) ifs tst)
 (hok : uJ X.env.scope scope cs X.N = true := by kernel_rfl) (hcl : closureFor scope X.env = pure (gQ scope.names X.env []) := by kernel_rfl) (hc : X.calm = true := by kernel_rfl) (hnd : ndB (x :: cs.map (·.1)) = true := by kernel_rfl) (hl : hU scope x = true := by kernel_rfl)
 (hs : ∀ x, foldedSetIterable iter X.env x = pure x := by intro _; kernel_rfl) : FE X (.ListComp elt [⟨.Name x px, iter, ifs, 0⟩] scope pos) (bg cs src tst fe) :=
 (v8 (cs := cs) (src := src) (tst := tst) (fe := fe)) ▸ jG X.env.scope X.N [x] [0] cs rfl rfl (kN hok) hcl hc (vJ _) hi (fun C s H fp => fgA C s H fp hnd rfl hl) helt hifs hs
theorem Cu (hi : FIG X (.Name x px) iter src) (helt : ∀ C s H fp, FE (aj X (x :: cs.map (·.1)) scope C s H fp) elt fe) (hifs : ∀ C s H fp, pC (aj X (x :: cs.map (·.1)) scope C s H fp) ifs tst)
 (hok : uJ X.env.scope scope cs X.N = true := by kernel_rfl) (hcl : closureFor scope X.env = pure (gQ scope.names X.env []) := by kernel_rfl) (hc : X.calm = true := by kernel_rfl) (hnd : ndB (x :: cs.map (·.1)) = true := by kernel_rfl) (hl : hU scope x = true := by kernel_rfl)
 (hs : ∀ x, foldedSetIterable iter X.env x = pure x := by intro _; kernel_rfl) : FE X (.ListComp elt [⟨.Name x px, iter, ifs, 0⟩] scope pos) (aU 1 cs src (gN 0) tst fe) :=
 jG X.env.scope X.N [x] [0] cs rfl rfl (kN hok) hcl hc (vJ _) hi (fun C s H fp => fgA C s H fp hnd rfl hl) helt hifs hs
theorem Cv (hi : FIG X (.Name x px) iter src) (helt : ∀ C s H fp, FE (aj X (x :: cs.map (·.1)) scope C s H fp) elt fe) (hifs : ∀ C s H fp, pC (aj X (x :: cs.map (·.1)) scope C s H fp) ifs tst)
 (hN : ndB X.N = true) (hiy : X.N[i]? = some y) (hxy : hU X.env.scope y = true) (hfy : X.fn y = true)
 (hok : uJ X.env.scope scope cs X.N = true) (hcl : closureFor scope X.env = pure (gQ scope.names X.env [])) (hc : X.calm = true) (hnd : ndB (x :: cs.map (·.1)) = true) (hl : hU scope x = true)
 (hsw : swapsWith (.ListComp elt [⟨.Name x px, iter, ifs, 0⟩] scope pos) (some (.Name y py)) spos.line X.env = pure true)
 (hs : ∀ x, foldedSetIterable iter X.env x = pure x) : PS X (.Assign [.Name y py] (.ListComp elt [⟨.Name x px, iter, ifs, 0⟩] scope pos) spos) (tC X i (aU 1 cs src (gN 0) tst fe)) :=
 nH i (gR hN) hiy (eX hxy) (.inl hfy) X.env.scope X.N [x] [0] cs rfl rfl (kN hok) hcl hc (vJ _) hi (fun C s H fp => fgA C s H fp hnd rfl hl) helt hifs hsw hs
theorem Cw (hi : FIG X (.Name x px) iter src) (helt : ∀ C s H fp, FE (aj X (x :: cs.map (·.1)) scope C s H fp) elt fe) (hifs : ∀ C s H fp, pC (aj X (x :: cs.map (·.1)) scope C s H fp) ifs tst)
 (hsw : swapsWith (.ListComp elt [⟨.Name x px, iter, ifs, 0⟩] scope pos) (some (.Name y py)) spos.line X.env = pure true)
 (hN : ndB X.N = true := by kernel_rfl) (hiy : X.N[i]? = some y := by kernel_rfl) (hxy : hU X.env.scope y = true := by kernel_rfl) (hfy : X.fn y = true := by kernel_rfl)
 (hok : uJ X.env.scope scope cs X.N = true := by kernel_rfl) (hcl : closureFor scope X.env = pure (gQ scope.names X.env []) := by kernel_rfl) (hc : X.calm = true := by kernel_rfl) (hnd : ndB (x :: cs.map (·.1)) = true := by kernel_rfl) (hl : hU scope x = true := by kernel_rfl)
 (hs : ∀ x, foldedSetIterable iter X.env x = pure x := by intro _; kernel_rfl) : FS X (.Assign [.Name y py] (.ListComp elt [⟨.Name x px, iter, ifs, 0⟩] scope pos) spos) (bh i (aU 1 cs src (gN 0) tst fe)) :=
 qo (Cv hi helt hifs hN hiy hxy hfy hok hcl hc hnd hl hsw hs) kv
theorem DN {N : List Str} (C : Addr) (s : Shared) (H : Hp) (fp : List Addr) (hc : X.calm = true) (hnd : ndB N = true) (hx : N[0]? = some x) (hz : N[1]? = some z) (hl : hU scope x = true) (hl2 : hU scope z = true)
 (a1 : (assignEach [.Name x px, .Name z py] (aj X N scope C s H fp).env).map (·.2) = assign (.Name x px) (aj X N scope C s H fp).env :: (assignEach [.Name z py] (aj X N scope C s H fp).env).map (·.2)) (a2 : (assignEach [.Name z py] (aj X N scope C s H fp).env).map (·.2) = assign (.Name z py) (aj X N scope C s H fp).env :: (assignEach [] (aj X N scope C s H fp).env).map (·.2))
 (a3 : (assignEach [.Name x px, .Name z py] (aj X N scope C s H fp).env).length = 2) (a4 : (assignEach [.Name x px, .Name z py] (aj X N scope C s H fp).env).findIdx? (·.1) = none) : FG (aj X N scope C s H fp) (.Tuple [.Name x px, .Name z py] k pt) (gP 0 1) :=
 vI 0 1 hc (gR hnd) hx (fgL hl).1 (fgL hl).2 hz (fgL hl2).1 (fgL hl2).2 a1 a2 a3 a4
theorem Cy (hi : FIG X (.Tuple [.Name x px, .Name z py] k pt) iter src) (helt : ∀ C s H fp, FE (aj X (x :: z :: cs.map (·.1)) scope C s H fp) elt fe) (hifs : ∀ C s H fp, pC (aj X (x :: z :: cs.map (·.1)) scope C s H fp) ifs tst)
 (hok : uJ X.env.scope scope cs X.N = true := by kernel_rfl) (hcl : closureFor scope X.env = pure (gQ scope.names X.env []) := by kernel_rfl) (hc : X.calm = true := by kernel_rfl) (hnd : ndB (x :: z :: cs.map (·.1)) = true := by kernel_rfl) (hl : hU scope x = true := by kernel_rfl) (hl2 : hU scope z = true := by kernel_rfl)
 (hs : ∀ x, foldedSetIterable iter X.env x = pure x := by intro _; kernel_rfl) : FE X (.ListComp elt [⟨.Tuple [.Name x px, .Name z py] k pt, iter, ifs, 0⟩] scope pos) (aU 2 cs src (gP 0 1) tst fe) :=
 jG X.env.scope X.N [x, z] [0, 1] cs rfl rfl (kN hok) hcl hc (y0 _) hi (fun C s H fp => DN C s H fp hc hnd rfl rfl hl hl2 rfl rfl rfl rfl) helt hifs hs
theorem Cz {p2 : Pos} (hi : FIG X (.Tuple [.Name x px, .Name z p2] k pt) iter src) (helt : ∀ C s H fp, FE (aj X (x :: z :: cs.map (·.1)) scope C s H fp) elt fe) (hifs : ∀ C s H fp, pC (aj X (x :: z :: cs.map (·.1)) scope C s H fp) ifs tst)
 (hsw : swapsWith (.ListComp elt [⟨.Tuple [.Name x px, .Name z p2] k pt, iter, ifs, 0⟩] scope pos) (some (.Name y py)) spos.line X.env = pure true)
 (hN : ndB X.N = true := by kernel_rfl) (hiy : X.N[i]? = some y := by kernel_rfl) (hxy : hU X.env.scope y = true := by kernel_rfl) (hfy : X.fn y = true := by kernel_rfl)
 (hok : uJ X.env.scope scope cs X.N = true := by kernel_rfl) (hcl : closureFor scope X.env = pure (gQ scope.names X.env []) := by kernel_rfl) (hc : X.calm = true := by kernel_rfl) (hnd : ndB (x :: z :: cs.map (·.1)) = true := by kernel_rfl) (hl : hU scope x = true := by kernel_rfl) (hl2 : hU scope z = true := by kernel_rfl)
 (hs : ∀ x, foldedSetIterable iter X.env x = pure x := by intro _; kernel_rfl) : FS X (.Assign [.Name y py] (.ListComp elt [⟨.Tuple [.Name x px, .Name z p2] k pt, iter, ifs, 0⟩] scope pos) spos) (bh i (aU 2 cs src (gP 0 1) tst fe)) :=
 qo (nH i (gR hN) hiy (eX hxy) (.inl hfy) X.env.scope X.N [x, z] [0, 1] cs rfl rfl (kN hok) hcl hc (y0 _) hi (fun C s H fp => DN C s H fp hc hnd rfl rfl hl hl2 rfl rfl rfl rfl) helt hifs hsw hs) kv
end
section
variable {X : Cx} {N : List Str} {scope : Scope} {c : Expr} {t : FnB}
theorem tq : ∀ C s H fp, pC (aj X N scope C s H fp) [] none := fun _ _ _ _ => rfl
theorem tt (h : ∀ C s H fp, FT (aj X N scope C s H fp) c t) : ∀ C s H fp, pC (aj X N scope C s H fp) [c] (some t) := fun C s H fp => ⟨_, rfl, h C s H fp⟩
end
section
variable {X : Cx} {a b c e st ix tg iter : Expr} {fa fb fs fi : FnE} {pos p2 pos' py apos cpos pt p1 lp ps : Pos} {i j k kk : Nat} {js : List Nat} {x y : Str} {src g : FnA} {fS : FnS} {fO : gX} {body sts : List Stmt} {es : List Expr} {is : List Nat}
theorem zY (ha : FE X a fa) (hb : FE X b fb) (hs : ∀ o i, subscripted b false o i = operate [o, i] (getItem o i) := by intro _ _; kernel_rfl) : FE X (.Subscript a b pos) (f2 ixD fa fb) := BR ha hb hs
theorem wq (he : FE X e fa) (hN : ndB X.N = true := by kernel_rfl) (hi : X.N[i]? = some x := by kernel_rfl) (hx : hU X.env.scope x = true := by kernel_rfl) (hf : X.fn x = true := by kernel_rfl) (hs : swapsWith e (some (.Name x pos')) pos.line X.env = pure false := by kernel_rfl) : FS X (.Assign [.Name x pos'] e pos) (bh i fa) :=
 yA i (gR hN) hi (eX hx) he hs (.inl hf)
theorem wt (he : FE X e fa) (hex : X.ex = [] := by kernel_rfl) (hij : Nat.beq i j = false := by kernel_rfl) (hN : ndB X.N = true := by kernel_rfl) (hi : X.N[j]? = some x := by kernel_rfl) (hx : hU X.env.scope x = true := by kernel_rfl) (hf : X.fn x = true := by kernel_rfl) (hs : swapsWith e (some (.Name x pos')) pos.line X.env = pure false := by kernel_rfl) : FO1 X i (.Assign [.Name x pos'] e pos) (fP j fa) :=
 zp hex j (Nat.ne_of_beq_eq_false hij) (gR hN) hi (eX hx) he hs (.inl hf)
theorem tu (hg : FA X es g) (hr : FOs X i sts fO) (hN : ndB X.N = true := by kernel_rfl) (hi : X.N[i]? = some x := by kernel_rfl) (hx : hU X.env.scope x = true := by kernel_rfl) (hf : X.fn x = true := by kernel_rfl) (hs : swapsWith (.List es lp) (some (.Name x pos')) pos.line X.env = pure false := by kernel_rfl) : FSs X (.Assign [.Name x pos'] (.List es lp) pos :: sts) (vU i g fO) :=
 vV (gR hN) hi (eX hx) hg hr hs (.inl hf)
theorem wu (hp : PassesOwn (model X.prog X.w) X.A X.env X.xe) (hi : FI X (.Name x py) iter src) (hb : FSs X body fS) (hc : X.calm = true := by kernel_rfl) (hN : ndB X.N = true := by kernel_rfl) (hx : X.N[i]? = some x := by kernel_rfl) (hl : hU X.env.scope x = true := by kernel_rfl) (hf : X.fn x = true := by kernel_rfl)
 (hs : ∀ x, foldedSetIterable iter X.env x = pure x := by intro _; kernel_rfl) : FS X (.For (.Name x py) iter body [] pos) (lr i js src fS) :=
 yE i js hp hc hi (gl (gR hN) hx (eX hl) (.inl hf)) hb hs
theorem wv (hp : PassesOwn (model X.prog X.w) X.A X.env X.xe) (hi : FI X (.Name x py) iter src) (hb : FOs X i body fO) (hex : X.ex = [] := by kernel_rfl) (hij : Nat.beq i j = false := by kernel_rfl) (hc : X.calm = true := by kernel_rfl) (hN : ndB X.N = true := by kernel_rfl) (hx : X.N[j]? = some x := by kernel_rfl) (hl : hU X.env.scope x = true := by kernel_rfl) (hf : X.fn x = true := by kernel_rfl)
 (hs : ∀ x, foldedSetIterable iter X.env x = pure x := by intro _; kernel_rfl) : FO1 X i (.For (.Name x py) iter body [] pos) (pX j js src fO) :=
 zu hex j js (Nat.ne_of_beq_eq_false hij) hp hc hi (gl (gR hN) hx (eX hl) (.inl hf)) hb hs
theorem ww (hN : X.N[i]? = some x) (hv : hU X.env.scope x = true) (hd : (x == ("__debug__" : Str)) = false) (hcd : (x == ("__classdict__" : Str)) = false) : PE X (.Name x pos) (xK i) := oK hN ((eX hv).elim .inl fun h => .inr (.inl h)) hd hcd
theorem wx (he : FE X e fa) (hx : PE X (.Name x apos) (xK i)) (hex : X.ex = [] := by kernel_rfl)
 (hbase : attributeBase (.Name x apos) "append" X.env (eval (.Name x apos) X.env) = eval (.Name x apos) X.env := by kernel_rfl)
 (hfew : ((backTo cpos (starEach [e] X.env)).all (fun x => !x.1) && (backToKw cpos (keywordEach [] X.env)).all (fun x => x.1.isSome)
   && decide ([e].length + ([] : List Keyword).length + (if ([] : List Keyword).isEmpty then 0 else 1) < 30)) = true := by kernel_rfl)
 (hline : (pt.endLine == cpos.line) = true := by kernel_rfl) (hs : starEach [e] X.env = (false, eval e X.env) :: starEach [] X.env := by kernel_rfl) (hplain : (backTo cpos (starEach [] X.env)).any (·.1) = false := by kernel_rfl)
 (hsw : swapsWith (.Call (.Attribute (.Name x apos) "append" pt) [e] [] cpos) none pos.line X.env = pure false := by kernel_rfl) : FO1 X i (.Expr (.Call (.Attribute (.Name x apos) "append" pt) [e] [] cpos) pos) (ux fa) := zt hex hx he hbase hfew hline hs hplain hsw
end
section
variable {X : Cx} {o e : Expr} {es : List Expr} {fo : FnE} {ga : FnA} {apos cpos pos : Pos} {name : Str}
structure SmL (X : Cx) (o : Expr) (name : Str) (e : Expr) (es : List Expr) (apos cpos : Pos) : Prop where
 base : attributeBase o name X.env (eval o X.env) = eval o X.env
 few : ((backTo cpos (starEach (e :: es) X.env)).all (fun x => !x.1) && (backToKw cpos (keywordEach [] X.env)).all (fun x => x.1.isSome)
  && decide ((e :: es).length + ([] : List Keyword).length + (if ([] : List Keyword).isEmpty then 0 else 1) < 30)) = true
 line : (apos.endLine == cpos.line) = true
 s : starEach (e :: es) X.env = (false, eval e X.env) :: starEach es X.env
 plain : (backTo cpos (starEach es X.env)).any (·.1) = false
theorem lM {id : String} {r : V → List V → Hp → VK → Prop} {g : Str → List Dv → Option (Rs Dv)} (slot : Slot "str" name id) (hty : typeOf (.builtin id) = pure (.type "method_descriptor")) (hm : MtR X id r)
 (hg : ∀ i ds vs H Q, Reps X.K H ds vs → Out X H (g i ds) Q → r (.str i) vs H Q) (ho : FE X o fo) (ha : FA X (e :: es) ga) (h : SmL X o name e es apos cpos) : FE X (.Call (.Attribute o name apos) (e :: es) [] cpos) (fM g fo ga) :=
 vA slot hty hm hg ho ha h.base h.few h.line h.s h.plain
end
section
open PySem.W
structure CA (K : PySem.W.Frag) (mg : Str → Option Value) (cls : Nat → Addr) (CJ : Addr) (S : List Nat) (m : Nat) : Prop where
 at_ : ∀ c ∈ S, mg (xnm c) = some (.ref (cls c))
 j : mg "JarError" = some (.ref CJ)
 xk : ∀ c C, c < m → nsIn K mainGlobals (xnm c) = some (some (.ref C)) → excIn K C bmV "ValueError.__new__" = true ∧ mroIn K C (.ref CJ) = some true
theorem CA.c {K : PySem.W.Frag} {mg : Str → Option Value} {cls : Nat → Addr} {CJ : Addr} {S : List Nat} {m c : Nat} {x : Str} (h : CA K mg cls CJ S m) (hc : c ∈ S) (hx : xnm c = x) : mg x = some (.ref (cls c)) := by
 subst hx
 exact h.at_ c hc
def nsB (K : PySem.W.Frag) (x : Str) (a : Addr) : Bool := match nsIn K mainGlobals x with
 | some (some (.ref b)) => Nat.beq a b
 | _ => false
theorem uK {K : PySem.W.Frag} {x : Str} {a : Addr} (h : nsB K x a = true) : nsIn K mainGlobals x = some (some (.ref a)) := by
 unfold nsB at h
 split at h
 · rename_i b e
   rw [e, Nat.eq_of_beq_eq_true h]
 · cases h
def caB (K : PySem.W.Frag) (S : List Nat) (Cs : List Addr) (CJ : Addr) (m : Nat) : Bool := S.all (fun c => nsB K (xnm c) (Cs.getD c 0)) && nsB K "JarError" CJ && Cd K S Cs CJ && (List.range m).all fun c => S.contains c || (match nsIn K mainGlobals (xnm c) with | some none => true | _ => false)
theorem CB {K : PySem.W.Frag} {mg : Str → Option Value} {h : Heap} {S : List Nat} {Cs : List Addr} {CJ : Addr} {m : Nat} (X : K.In h) (G : h.Ns mainGlobals mg) (e : caB K S Cs CJ m = true) : XAllS K S (fun c => Cs.getD c 0) CJ ∧ CA K mg (fun c => Cs.getD c 0) CJ S m := by
 unfold caB at e
 rw [Bool.and_eq_true, Bool.and_eq_true, Bool.and_eq_true] at e
 obtain ⟨⟨⟨e1, e2⟩, e3⟩, e4⟩ := e
 have hn : ∀ c ∈ S, nsIn K mainGlobals (xnm c) = some (some (.ref (Cs.getD c 0))) := fun c hc => uK (List.all_eq_true.1 e1 c hc)
 have xa := sL hn e3
 refine ⟨xa, fun c hc => mg_of X G (hn c hc), mg_of X G (uK e2), fun c C hc q => ?_⟩
 have h1 := List.all_eq_true.1 e4 c (List.mem_range.2 hc)
 rw [Bool.or_eq_true] at h1
 rcases h1 with h1 | h1
 · have h' : c ∈ S := by simpa using h1
   rw [xa.same h' q]
   exact ⟨(xa.at_ c h').2.1, (xa.at_ c h').2.2.2.1⟩
 · rw [q] at h1
   cases h1
end
noncomputable abbrev nsM (K : PySem.W.Frag) (x : Str) : Option (Option Value) := PySem.W.nsIn K mainGlobals x
structure Af (K : PySem.W.Frag) (x : Str) (st : Stmt) (f : Addr) : Prop where
 a : nsM K x = some (some (.ref f))
 F : ∃ fd, Fun K x x st f fd
 k : PySem.W.keepIn K (.ref f) = true
def fnB (N P : List Str) (sc : Scope) : Bool := decide (sc.kind = .function) && !sc.isCoroutine && !sc.isGenerator && ndB N && decide (N.take P.length = P) && P.all (hU sc) && decide (∀ y ∈ sc.names, y.2 ≠ .free)
theorem Bc {N P : List Str} {sc : Scope} (h : fnB N P sc = true) : dW N P sc := by
 unfold fnB at h
 simp only [Bool.and_eq_true, decide_eq_true_eq, Bool.not_eq_true'] at h
 exact ⟨h.1.1.1.1.1.1, h.1.1.1.1.1.2, h.1.1.1.1.2, gR h.1.1.1.2, h.1.1.2, fun x hx => eX (List.all_eq_true.1 h.1.2 x hx), h.2⟩
section
variable {P : Program} {w : World} {K : PySem.W.Frag} {mg : Str → Option Value} {base : Heap} {h : Heap} {k : Nat} {x : Str} {st : Stmt} {f : Addr} {F : List Dv → Option (Rs Dv)}
def CF (x : Str) (st : Stmt) (ps : List Str) : Prop := ∀ (kV doc pm : Value) (an : Option Addr) (cdv ct : Value) (us : List Value), us.length = ps.length → bindArgs (PySem.W.fnOf x x (gm st) (cq st) (ar st) .none kV doc pm an cdv ct) ⟨us, []⟩ = pure (ps.zip us)
theorem aE (XI : K.In h) (Gn : h.Ns mainGlobals mg) (N ps : List Str) (fb : FnS) (A : Af K x st f) (hbd : CF x st ps)
 (hb : ∀ (cdv : Value) (A : Around) (outer : List Env) (s : Shared) (H : Hp) (E : XK), Room k (A.deeper (envOfC x (ar st) s.heap.objs.size f cdv)) → FSs (mJ CX0 P w K mg base N x (ar st) f cdv A outer s H E).nox (cq st) fb) (hF : F = aZ N.length fb := by kernel_rfl) (hs : fnB N ps (ar st) = true := by kernel_rfl) : Has P w K mg base x (k + 1) ps F :=
 let ⟨_, Fn⟩ := A.F
 ⟨_, _, ug N ps fb hF rfl Fn (Bc hs) hb, PySem.W.mg_of XI Gn A.a, A.k, Fn.binds hbd⟩
theorem fq (XI : K.In h) (Gn : h.Ns mainGlobals mg) (N ps : List Str) (fb : FnS) (A : Af K x st f) (hbd : CF x st ps)
 (hb : ∀ (cdv : Value) (A : Around) (outer : List Env) (s : Shared) (H : Hp) (E : XK), Room k (A.deeper (envOfC x (ar st) s.heap.objs.size f cdv)) → FSs (mJ (CXE P w) P w K mg base N x (ar st) f cdv A outer s H E) (cq st) fb) (hF : F = iX N.length fb := by kernel_rfl) (hs : fnB N ps (ar st) = true := by kernel_rfl) : AZ P w K mg base x (k + 1) ps F :=
 let ⟨_, Fn⟩ := A.F
 ⟨_, _, za N ps fb hF rfl Fn (Bc hs) hb, PySem.W.mg_of XI Gn A.a, A.k, Fn.binds hbd⟩
theorem wy (XI : K.In h) (Gn : h.Ns mainGlobals mg) (N ps : List Str) (fb : FnS) (A : Af K x st f) (hbd : CF x st ps)
 (hb : ∀ (cdv : Value) (A : Around) (outer : List Env) (s : Shared) (H : Hp), RoomM k (A.deeper (envOfC x (ar st) s.heap.objs.size f cdv)) → FSs (cxM P w K mg base N x (ar st) f cdv A outer s H) (cq st) fb) (hF : F = aZ N.length fb := by kernel_rfl) (hs : fnB N ps (ar st) = true := by kernel_rfl) : A0 P w K mg base x (k + 1) ps F :=
 let ⟨_, Fn⟩ := A.F
 ⟨_, _, zf N ps fb hF Fn (Bc hs) hb, PySem.W.mg_of XI Gn A.a, A.k, Fn.binds hbd⟩
end
section
theorem wz : bootBuiltins (Str.ofString "list") = some (.type "list") := by decide +kernel
theorem wA {X : Cx} {pl : List (Addr × Obj)} {e : Addr} {k : Nat} (h : Room k X.A) : RoomM k (kl X pl e).A := ⟨h.dp, h.un⟩
end
theorem wB {c : FnB} {f g : FnS} {ρ : Ev} (h : c ρ = some (.ok true)) : aR c f g ρ = f ρ := by
 unfold aR; rw [h]; rfl
theorem cQ {α : Type} {p : α → Bool} {l : List α} (h : l.all p = true) {x : α} (hx : x ∈ l) : p x = true := List.all_eq_true.mp h x hx
end FD
namespace G
open PySem PySem.Spec PyProof.Rows L2 FD
def top (i : Nat) : Stmt := PySem.Challenge.pw_notejar_k33_looking.main.body.getD i (.Pass ⟨0, 0, 0, 0⟩)
section
variable {X : Cx} {a b c o e : Expr} {es : List Expr} {fa fb fc fo : FnE} {ga : FnA} {pos p pt apos cpos : Pos}
theorem zZ (ha : FE X a fa) (hb : FE X b fb) : FE X (.BinOp a .Add b pos) (f2 cY fa fb) := lB o_add yG ha hb
theorem z0 (ha : FE X a fa) (hb : FE X b fb) : FE X (.BinOp a .Add b pos) (f2 cC fa fb) := lB zl zm ha hb
theorem z5 (ha : FE X a fa) (hb : FE X b fb) : FE X (.BinOp a .Sub b pos) (f2 vn fa fb) := lB xX BN ha hb
theorem z6 (ha : FE X a fa) (hb : FE X b fb) : FE X (.BinOp a .Mult b pos) (f2 fI fa fb) := lB tY yH ha hb
theorem z7 (ha : FE X a fa) (hb : FE X b fb) : FE X (.BinOp a .Mod b pos) (f2 fJ fa fb) := lB xY BO ha hb
theorem wC (ha : FE X a fa) (hb : FE X b fb) : FE X (.BinOp a .FloorDiv b pos) (f2 fN fa fb) := lB uU yI ha hb
theorem z8 (ha : FE X a fa) (hb : FE X b fb) : FE X (.BinOp a .Mult b pos) (f2 uA fa fb) := lB zE zF ha hb
theorem z9 (hu : X.A.units + 64 < cLine) (ha : FE X a fa) (hb : FE X b fb) (hm : behindInMarks .Eq b = false := by kernel_rfl) : FT X (.Compare a [.Eq] [b] pos) (fB (f2 eqX fa fb)) := fL (yT hu) yU ha hb hm
theorem Aa (hu : X.A.units + 64 < cLine) (ha : FE X a fa) (hb : FE X b fb) (hm : behindInMarks .NotEq b = false := by kernel_rfl) : FT X (.Compare a [.NotEq] [b] pos) (fB (f2 neX fa fb)) := fL (BY hu) BZ ha hb hm
theorem Ab (ha : FE X a fa) (hb : FE X b fb) (hm : behindInMarks .Lt b = false := by kernel_rfl) : FT X (.Compare a [.Lt] [b] pos) (fB (f2 ltX fa fb)) := fL vC vD ha hb hm
theorem Ac (ha : FE X a fa) (hb : FE X b fb) (hm : behindInMarks .LtE b = false := by kernel_rfl) : FT X (.Compare a [.LtE] [b] pos) (fB (f2 leX fa fb)) := fL vX vY ha hb hm
theorem Ad (ha : FE X a fa) (hb : FE X b fb) (hm : behindInMarks .Gt b = false := by kernel_rfl) : FT X (.Compare a [.Gt] [b] pos) (fB (f2 gtD fa fb)) := fL Bx (BQ _) ha hb hm
theorem Ae (ha : FE X a fa) (hb : FE X b fb) (hm : behindInMarks .Is b = false := by kernel_rfl) : FT X (.Compare a [.Is] [b] pos) (fB (f2 isN fa fb)) := fL tZ yK ha hb hm
theorem wD (ha : FE X a fa) (hb : FE X b fb) (hm : behindInMarks .IsNot b = false := by kernel_rfl) : FT X (.Compare a [.IsNot] [b] pos) (fB (f2 dC fa fb)) := fL oZ uj ha hb hm
theorem wE (hu : X.A.units < cLine) (ha : FE X a fa) (hb : FE X b fb) (hm : behindInMarks .Eq b = false := by kernel_rfl) : FT X (.Compare a [.Eq] [b] pos) (fB (f2 AW fa fb)) := fL (BW hu) BX ha hb hm
theorem Ag (ha : FE X a fa) (hb : FE X b fb) (hm : behindInMarks .In b = false := by kernel_rfl) : FT X (.Compare a [.In] [b] pos) (fB (f2 inD fa fb)) := fL DA DB ha hb hm
theorem qS (ha : FE X a fa) (hb : FE X b fb) (hc : FE X c fc) (hm : lastMarks [.Lt, .LtE] [b, c] = false := by kernel_rfl) : FT X (.Compare a [.Lt, .LtE] [b, c] pos) (fB (gK ltX leX fa fb fc)) := sF vC vD vX vY ha hb hc hm
theorem Ah (hu : X.A.units + 64 < cLine) (ha : FE X a fa) (hb : FE X b fb) (hm : behindInMarks .Eq b = false := by kernel_rfl) : FE X (.Compare a [.Eq] [b] pos) (f2 eqX fa fb) := ie (yT hu) yU ha hb hm
theorem Ai (ha : FE X a fa) (hb : FE X b fb) (hm : behindInMarks .Lt b = false := by kernel_rfl) : FE X (.Compare a [.Lt] [b] pos) (f2 ltX fa fb) := ie vC vD ha hb hm
theorem Aj (ha : FE X a fa) (hb : FE X b fb) (hm : behindInMarks .LtE b = false := by kernel_rfl) : FE X (.Compare a [.LtE] [b] pos) (f2 leX fa fb) := ie vX vY ha hb hm
theorem Ak (ha : FE X a fa) (hb : FE X b fb) (hm : behindInMarks .Is b = false := by kernel_rfl) : FE X (.Compare a [.Is] [b] pos) (f2 isN fa fb) := ie tZ yK ha hb hm
theorem wF (ha : FE X a fa) (hb : FE X b fb) (hm : behindInMarks .IsNot b = false := by kernel_rfl) : FE X (.Compare a [.IsNot] [b] pos) (f2 dC fa fb) := ie oZ uj ha hb hm
theorem Al (ha : FE X a fa) (hb : FE X b fb) (hm : behindInMarks .In b = false := by kernel_rfl) : FE X (.Compare a [.In] [b] pos) (f2 inD fa fb) := ie DA DB ha hb hm
theorem qT (ha : FE X a fa) (hb : FE X b fb) (hm : behindInMarks .NotIn b = false := by kernel_rfl) : FE X (.Compare a [.NotIn] [b] pos) (f2 mP fa fb) := ie vo vp ha hb hm
theorem Am (hm : X.mg "isinstance" = none) (hn : X.mg "int" = none) (ha : FE X a fa) (hg : X.env.kindOf (Str.ofString "isinstance") = some .globalImplicit := by kernel_rfl) (hg2 : X.env.kindOf (Str.ofString "int") = some .globalImplicit := by kernel_rfl) (hs1 : starEach [a, .Name (Str.ofString "int") pt] X.env = (false, eval a X.env) :: starEach [.Name (Str.ofString "int") pt] X.env := by kernel_rfl) (hs2 : starEach [.Name (Str.ofString "int") pt] X.env = (false, eval (.Name (Str.ofString "int") pt) X.env) :: starEach [] X.env := by kernel_rfl) (hpl : (backTo pos (starEach [.Name (Str.ofString "int") pt] X.env)).any (·.1) = false := by kernel_rfl) : FE X (.Call (.Name "isinstance" p) [a, .Name (Str.ofString "int") pt] [] pos) (f1 (cB bJ) fa) := kb (T := "int") vW zv (by decide +kernel) (by kernel_rfl) hg hm hg2 hn ha hs1 hs2 hpl
theorem An (hm : X.mg "isinstance" = none) (hn : X.mg "str" = none) (ha : FE X a fa) (hg : X.env.kindOf (Str.ofString "isinstance") = some .globalImplicit := by kernel_rfl) (hg2 : X.env.kindOf (Str.ofString "str") = some .globalImplicit := by kernel_rfl) (hs1 : starEach [a, .Name (Str.ofString "str") pt] X.env = (false, eval a X.env) :: starEach [.Name (Str.ofString "str") pt] X.env := by kernel_rfl) (hs2 : starEach [.Name (Str.ofString "str") pt] X.env = (false, eval (.Name (Str.ofString "str") pt) X.env) :: starEach [] X.env := by kernel_rfl) (hpl : (backTo pos (starEach [.Name (Str.ofString "str") pt] X.env)).any (·.1) = false := by kernel_rfl) : FE X (.Call (.Name "isinstance" p) [a, .Name (Str.ofString "str") pt] [] pos) (f1 (cB bB) fa) := kb (T := "str") vw yQ (by decide +kernel) (by kernel_rfl) hg hm hg2 hn ha hs1 hs2 hpl
theorem tw (hm : X.mg "isinstance" = none) (hn : X.mg "tuple" = none) (ha : FE X a fa) (hg : X.env.kindOf (Str.ofString "isinstance") = some .globalImplicit := by kernel_rfl) (hg2 : X.env.kindOf (Str.ofString "tuple") = some .globalImplicit := by kernel_rfl) (hs1 : starEach [a, .Name (Str.ofString "tuple") pt] X.env = (false, eval a X.env) :: starEach [.Name (Str.ofString "tuple") pt] X.env := by kernel_rfl) (hs2 : starEach [.Name (Str.ofString "tuple") pt] X.env = (false, eval (.Name (Str.ofString "tuple") pt) X.env) :: starEach [] X.env := by kernel_rfl) (hpl : (backTo pos (starEach [.Name (Str.ofString "tuple") pt] X.env)).any (·.1) = false := by kernel_rfl) : FE X (.Call (.Name "isinstance" p) [a, .Name (Str.ofString "tuple") pt] [] pos) (f1 (cB br) fa) := kb (T := "tuple") vx sg (by decide +kernel) (by kernel_rfl) hg hm hg2 hn ha hs1 hs2 hpl
theorem wG (hm : X.mg "isinstance" = none) (hn : X.mg "bool" = none) (ha : FE X a fa) (hg : X.env.kindOf (Str.ofString "isinstance") = some .globalImplicit := by kernel_rfl) (hg2 : X.env.kindOf (Str.ofString "bool") = some .globalImplicit := by kernel_rfl) (hs1 : starEach [a, .Name (Str.ofString "bool") pt] X.env = (false, eval a X.env) :: starEach [.Name (Str.ofString "bool") pt] X.env := by kernel_rfl) (hs2 : starEach [.Name (Str.ofString "bool") pt] X.env = (false, eval (.Name (Str.ofString "bool") pt) X.env) :: starEach [] X.env := by kernel_rfl) (hpl : (backTo pos (starEach [.Name (Str.ofString "bool") pt] X.env)).any (·.1) = false := by kernel_rfl) : FE X (.Call (.Name "isinstance" p) [a, .Name (Str.ofString "bool") pt] [] pos) (f1 (cB aI) fa) := kb (T := "bool") sf vB (by decide +kernel) (by kernel_rfl) hg hm hg2 hn ha hs1 hs2 hpl
theorem wH (hm : X.mg "isinstance" = none) (hn : X.mg "list" = none) (ha : FE X a fa) (hg : X.env.kindOf (Str.ofString "isinstance") = some .globalImplicit := by kernel_rfl) (hg2 : X.env.kindOf (Str.ofString "list") = some .globalImplicit := by kernel_rfl) (hs1 : starEach [a, .Name (Str.ofString "list") pt] X.env = (false, eval a X.env) :: starEach [.Name (Str.ofString "list") pt] X.env := by kernel_rfl) (hs2 : starEach [.Name (Str.ofString "list") pt] X.env = (false, eval (.Name (Str.ofString "list") pt) X.env) :: starEach [] X.env := by kernel_rfl) (hpl : (backTo pos (starEach [.Name (Str.ofString "list") pt] X.env)).any (·.1) = false := by kernel_rfl) : FE X (.Call (.Name "isinstance" p) [a, .Name (Str.ofString "list") pt] [] pos) (f1 (cB pY) fa) := kb (T := "list") wm wz (by decide +kernel) (by kernel_rfl) hg hm hg2 hn ha hs1 hs2 hpl
theorem jH (ho : FE X o fo) (ha : FA X (e :: es) ga) (h : SmL X o "startswith" e es apos cpos := by exact ⟨by kernel_rfl, by kernel_rfl, by kernel_rfl, by kernel_rfl, by kernel_rfl⟩) : FE X (.Call (.Attribute o "startswith" apos) (e :: es) [] cpos) (fM (ls Txt.startswith) fo ga) := lM PySem.F.slot_str_startswith PySem.F.type_str_startswith BU uo ho ha h
theorem lN (ho : FE X o fo) (ha : FA X (e :: es) ga) (h : SmL X o "endswith" e es apos cpos := by exact ⟨by kernel_rfl, by kernel_rfl, by kernel_rfl, by kernel_rfl, by kernel_rfl⟩) : FE X (.Call (.Attribute o "endswith" apos) (e :: es) [] cpos) (fM (ls Txt.endswith) fo ga) := lM PySem.F.slot_str_endswith PySem.F.type_str_endswith BV uo ho ha h
theorem tx (ho : FE X o fo) (ha : FA X (e :: es) ga) (h : SmL X o "split" e es apos cpos := by exact ⟨by kernel_rfl, by kernel_rfl, by kernel_rfl, by kernel_rfl, by kernel_rfl⟩) : FE X (.Call (.Attribute o "split" apos) (e :: es) [] cpos) (fM (iV) fo ga) := lM PySem.F.slot_str_split PySem.F.type_str_split sh vE ho ha h
theorem wI (ho : FE X o fo) (ha : FA X (e :: es) ga) (h : SmL X o "join" e es apos cpos := by exact ⟨by kernel_rfl, by kernel_rfl, by kernel_rfl, by kernel_rfl, by kernel_rfl⟩) : FE X (.Call (.Attribute o "join" apos) (e :: es) [] cpos) (fM (pG) fo ga) := lM PySem.F.slot_str_join PySem.F.type_str_join vF yW ho ha h
theorem kO (ho : FE X o fo) (ha : FA X (e :: es) ga) (h : SmL X o "partition" e es apos cpos := by exact ⟨by kernel_rfl, by kernel_rfl, by kernel_rfl, by kernel_rfl, by kernel_rfl⟩) : FE X (.Call (.Attribute o "partition" apos) (e :: es) [] cpos) (fM (si) fo ga) := lM PySem.F.slot_str_partition PySem.F.type_str_partition vG yY ho ha h
theorem wJ (ho : FE X o fo) (ha : FA X (e :: es) ga) (h : SmL X o "find" e es apos cpos := by exact ⟨by kernel_rfl, by kernel_rfl, by kernel_rfl, by kernel_rfl, by kernel_rfl⟩) : FE X (.Call (.Attribute o "find" apos) (e :: es) [] cpos) (fM (AV Txt.find) fo ga) := lM PySem.F.slot_str_find PySem.F.type_str_find vz yP ho ha h
theorem Ao (ho : FE X o fo) (ha : FA X (e :: es) ga) (h : SmL X o "index" e es apos cpos := by exact ⟨by kernel_rfl, by kernel_rfl, by kernel_rfl, by kernel_rfl, by kernel_rfl⟩) : FE X (.Call (.Attribute o "index" apos) (e :: es) [] cpos) (fM Ba fo ga) := lM PySem.F.slot_str_index PySem.F.type_str_index zn B9 ho ha h
end
local macro_rules | `(tactic| walk_at "x") => `(tactic| (first
 | with_reducible exact pq
 | with_reducible refine lC ?_ ?_
 | with_reducible exact BG _ (by kernel_rfl) (by kernel_rfl!)
 | with_reducible exact BH _ (by kernel_rfl) (by kernel_rfl!)
 | with_reducible exact yl
 | with_reducible exact yn
 | with_reducible exact BI
 | with_reducible exact ym
 | with_reducible exact Cq (by with_unfolding_all assumption) (by kernel_rfl!)
 | with_reducible exact Cr (by with_unfolding_all assumption) (by kernel_rfl!)
 | with_reducible refine zY ?_ ?_
 | with_reducible refine yz ?_
 | with_reducible refine yy ?_
 | with_reducible refine tj (by with_unfolding_all assumption) (by with_unfolding_all assumption) (by kernel_rfl!) ?_
 | with_reducible refine qQ (by with_unfolding_all assumption) (by with_unfolding_all assumption) (by kernel_rfl!) (by kernel_rfl) ?_
 | with_reducible refine qR (by with_unfolding_all assumption) (by with_unfolding_all (first | assumption | exact RoomM.of (by assumption) | exact wA (by assumption))) (by kernel_rfl!) ?_
 | with_reducible refine yt ?_
 | with_reducible refine yu ?_ ?_
 | with_reducible refine BJ ?_ ?_
 | with_reducible refine yw ?_
 | with_reducible refine yJ ?_
 | with_reducible refine BK ?_ ?_ ?_
 | with_reducible refine zZ ?_ ?_
 | with_reducible refine z0 ?_ ?_
 | with_reducible refine z5 ?_ ?_
 | with_reducible refine z6 ?_ ?_
 | with_reducible refine z7 ?_ ?_
 | with_reducible refine wC ?_ ?_
 | with_reducible refine z8 ?_ ?_
 | with_reducible refine z9 ?_ ?_ ?_
 | with_reducible refine Aa ?_ ?_ ?_
 | with_reducible refine Ab ?_ ?_
 | with_reducible refine Ac ?_ ?_
 | with_reducible refine Ad ?_ ?_
 | with_reducible refine Ae ?_ ?_
 | with_reducible refine wD ?_ ?_
 | with_reducible refine wE ?_ ?_ ?_
 | with_reducible refine Ag ?_ ?_
 | with_reducible refine qS ?_ ?_ ?_
 | with_reducible refine Ah ?_ ?_ ?_
 | with_reducible refine Ai ?_ ?_
 | with_reducible refine Aj ?_ ?_
 | with_reducible refine Ak ?_ ?_
 | with_reducible refine wF ?_ ?_
 | with_reducible refine Al ?_ ?_
 | with_reducible refine qT ?_ ?_
 | with_reducible refine FW.ft (ue ?_ ?_)
 | with_reducible refine FW.ft (yq ?_ ?_)
 | with_reducible refine ue ?_ ?_
 | with_reducible refine yq ?_ ?_
 | with_reducible refine vf ?_
 | with_reducible refine yp ?_
 | with_reducible refine yr ?_
 | with_reducible refine yo ?_
 | with_reducible refine yL ?_ ?_ ?_
 | with_reducible exact vq
 | with_reducible refine vt ?_
 | with_reducible refine Ct ?_ ?_ ?_
 | with_reducible refine Cu ?_ ?_ ?_
 | with_reducible refine Cy ?_ ?_ ?_
 | with_reducible exact tq
 | with_reducible refine tt ?_
 | with_reducible intro _ _ _ _
 | with_reducible refine ql ?_ (by kernel_rfl) (glb (by kernel_rfl)) ?_ (glb (by kernel_rfl)) ?_ ?_
 | with_reducible refine oi (by kernel_rfl) (glb (by kernel_rfl)) ?_ (glb (by kernel_rfl)) ?_ ?_
 | with_reducible refine yM (glb (by kernel_rfl)) ?_ ?_
 | with_reducible refine sj (glb (by kernel_rfl)) ?_ ?_
 | with_reducible refine td (glb (by kernel_rfl)) ?_ ?_
 | with_reducible refine yN (by kernel_rfl) (glb (by kernel_rfl)) ?_ ?_
 | with_reducible refine Am ?_ ?_ ?_
 | with_reducible refine An ?_ ?_ ?_
 | with_reducible refine tw ?_ ?_ ?_
 | with_reducible refine wG ?_ ?_ ?_
 | with_reducible refine wH ?_ ?_ ?_
 | with_reducible refine jH ?_ ?_
 | with_reducible refine lN ?_ ?_
 | with_reducible refine tx ?_ ?_
 | with_reducible refine wI ?_ ?_
 | with_reducible refine kO ?_ ?_
 | with_reducible refine wJ ?_ ?_
 | with_reducible refine Ao ?_ ?_
 | with_reducible refine sE ?_ ?_
 | with_reducible refine sr ?_ ?_
 | with_reducible refine ze (T := "ValueError") (by with_unfolding_all exact XAllS.xtV (by assumption)) jB (by decide +kernel) (by kernel_rfl) (glb (by kernel_rfl)) ?_ (glb (by kernel_rfl)) ?_ ?_
 | with_reducible refine zd (by with_unfolding_all exact XAllS.xtO (by assumption) _ (by decide)) (by with_unfolding_all exact CA.c (by assumption) (by decide) rfl) (glb (by kernel_rfl)) (by kernel_rfl) (glb (by kernel_rfl)) ?_ ?_
 | with_reducible refine pw (glb (by kernel_rfl)) ?_ ?_
 | with_reducible refine pA (glb (by kernel_rfl)) ?_ ?_
 | with_reducible refine yD ?_
 | with_reducible refine su (glb (by kernel_rfl)) ?_ ?_
 | with_reducible refine FI.toG ?_
 | with_reducible exact vg
 | with_reducible refine pr ?_
 | with_reducible refine tu ?_ ?_
 | with_reducible refine rZ ?_ ?_
 | with_reducible refine uf ?_
 | with_reducible refine BL ?_ ?_ ?_
 | with_reducible refine vh ?_
 | with_reducible refine Cw ?_ ?_ ?_ (by kernel_rfl!)
 | with_reducible refine Cz ?_ ?_ ?_ (by kernel_rfl!)
 | with_reducible refine wq ?_
 | with_reducible refine wu ?_ ?_ ?_
 | with_reducible refine sx _ (by with_unfolding_all exact XAllS.xc (by assumption) _ (by decide)) (by kernel_rfl) (by with_unfolding_all exact CA.c (by assumption) (by decide) rfl) (by kernel_rfl) (by kernel_rfl) (glb (by kernel_rfl)) ?_
 | with_reducible refine wl _ _ _ (by kernel_rfl) (by kernel_rfl) (by kernel_rfl) (glb (by kernel_rfl)) (by with_unfolding_all exact CA.j (by assumption)) (by with_unfolding_all exact XAllS.exJ (by assumption)) (by with_unfolding_all exact CA.xk (by assumption)) (gR (by kernel_rfl)) (by kernel_rfl) (by kernel_rfl) (by kernel_rfl) ?_ ?_
 | with_reducible intro _ _
 | with_reducible exact vS
 | with_reducible refine wc ?_
 | with_reducible refine vT ?_
 | with_reducible refine sJ ?_ ?_
 | with_reducible refine zr ?_
 | with_reducible refine zq ?_ ?_ ?_
 | with_reducible refine wx ?_ (ww (by kernel_rfl) (by kernel_rfl) (by kernel_rfl) (by kernel_rfl))
 | with_reducible refine wt ?_
 | with_reducible refine wv ?_ ?_ ?_
 | assumption
 | exact MA.no (by assumption) (by kernel_rfl)
 | exact Room.units (by assumption)
 | exact RoomM.units (by assumption)
 | exact Room.units0 (by assumption)
 | exact PassesOwn.never) <;> walk_at "x")
local macro_rules | `(tactic| walk_at "b") => `(tactic| (intros; (conv => arg 2; whnf); walk_at "x"))
local macro_rules | `(tactic| walk_at "d") => `(tactic| (intro _ _ _ _ _ _ us hl; rcases us with _ | ⟨_, _ | ⟨_, _ | ⟨_, _ | ⟨_, _ | ⟨_, _ | ⟨_, _ | ⟨_, _ | ⟨_, us⟩⟩⟩⟩⟩⟩⟩⟩ <;> first | rfl | cases hl))
def CC : zW := [cN "ValueError", cN "all", cN "bool", cN "enumerate", cN "int", cN "isinstance", cN "len", cN "list", cN "range", cN "set", cN "sorted", cN "str", cN "tuple", cI "ASK_HOUSE" 1, cI "ASK_ORIGIN" 3, cI "ASK_PARTS" 4, cI "ASK_PATH" 2, cI "ASK_SAFE" 0, cS "FIGURES" "0123456789", cS "LABEL_SIGNS" "abcdefghijklmnopqrstuvwxyz0123456789-", cI "LAST_MOMENT" 9999, cI "LONGEST_LABEL" 8, cI "LONGEST_NOTE_NAME" 10, cI "LONGEST_PATH" 20, cI "LONGEST_WORTH" 12, cI "MOST_ASKS" 9, cI "MOST_LABELS" 5, cI "MOST_NOTES" 20, cI "MOST_RULES" 8, cI "NOTE_ENDS" 5, cI "NOTE_EXACT" 3, cI "NOTE_HOUSE" 2, cI "NOTE_MADE" 8, cI "NOTE_NAME" 0, cS "NOTE_NAME_SIGNS" "abcdefghijklmnopqrstuvwxyzABCDEFGHIJKLMNOPQRSTUVWXYZ0123456789-_", cI "NOTE_PARTS" 10, cI "NOTE_PATH" 4, cI "NOTE_REACH" 7, cI "NOTE_SAFE" 6, cI "NOTE_USED" 9, cI "NOTE_WORTH" 1, cS "NO_WORTH_SIGNS" ";,=", cS "PATH_SIGNS" "abcdefghijklmnopqrstuvwxyz0123456789-_./"]
section
variable {P : Program} {w : World} {K : PySem.W.Frag} {mg : Str → Option Value} {base h : Heap} {f : Addr} {cls : Nat → Addr} {CJ : Addr} (XI : K.In h) (Gn : h.Ns mainGlobals mg) (M : MA mg CC) (xa : XAllS K [1, 3, 5, 6] cls CJ) (ca : CA K mg cls CJ [1, 3, 5, 6] 7)
include XI Gn M xa ca
def T0 : bP := []
def TE0 : bP := []
def TM0 : bP := []
def c5 : FnS := (aD (aR (fB (f2 AW (ac 0) (bq ae))) (ay (f2 fI (fC (.int 7)) (ac 1))) (fun ρ => some (.nx ρ))) (ay (f2 cY (f2 ixD (ac 0) (f2 fJ (ac 1) (fB1 eI (aa (ac 0) ae)))) (f2 fI (fC (.int 6553)) (f2 fN (ac 1) (fB1 eI (aa (ac 0) ae)))))))
def b5 : List Dv → Option (Rs Dv) := aZ 2 c5
def T1 : bP := ("_law_cell", 1, ["_law_script", "_law_k"], b5) :: T0
theorem kP (A : Af K "_law_cell" (top 87) f) (t : HA P w K mg base T0) : HA P w K mg base T1 :=
 aq (aE XI Gn ["_law_script", "_law_k"] ["_law_script", "_law_k"] c5 A (by walk_at "d") (by delta c5; walk_at "b")) t
def cj : FnS := (aD (bh 3 (f2 fJ (f2 cY (f2 fI (f2 fJ (ag b5 2 (aa (ac 0) (aa (ac 1) ae))) (fC (.int 2147483563))) (fC (.int 69069))) (f2 fI (fC (.int 104723)) (f2 cY (ac 1) (fC (.int 1))))) (fC (.int 2147483563)))) (aD (bh 3 (f2 fJ (f2 cY (f2 fI (ac 3) (ac 3)) (f2 fN (ac 3) (fC (.int 3)))) (fC (.int 2147483399)))) (ay (f2 fJ (f2 fN (f2 fJ (f2 cY (f2 fI (ac 3) (ac 3)) (f2 fN (ac 3) (fC (.int 7)))) (fC (.int 2147483647))) (fC (.int 11))) (ac 2)))))
def ah : List Dv → Option (Rs Dv) := aZ 4 cj
def T2 : bP := ("_law_drawn", 2, ["_law_script", "_law_k", "_law_many"], ah) :: T1
theorem jI (A : Af K "_law_drawn" (top 88) f) (t : HA P w K mg base T1) : HA P w K mg base T2 :=
 aq (aE XI Gn ["_law_script", "_law_k", "_law_many", "_law_cell_here"] ["_law_script", "_law_k", "_law_many"] cj A (by walk_at "d") (by delta cj; walk_at "b")) t
def fr : FnS := (aD (bh 2 (bq (aa (fC (.str "a.b")) (aa (fC (.str "b")) (aa (fC (.str "x.a.b")) (aa (fC (.str "y.x.a.b")) (aa (fC (.str "c.uk")) (aa (fC (.str "uk")) (aa (fC (.str "d.c.uk")) (aa (fC (.str "e.d.c.uk")) ae)))))))))) (aD (bh 2 (f2 cY (ac 2) (bq (aa (fC (.str "w.ck")) (aa (fC (.str "v.w.ck")) (aa (fC (.str "ck")) (aa (fC (.str "g-1.a.b")) (aa (fC (.str "7.b")) (aa (fC (.str "p.q")) ae))))))))) (ay (f2 ixD (ac 2) (ag ah 3 (aa (ac 0) (aa (ac 1) (aa (fB1 eI (aa (ac 2) ae)) ae))))))))
def aJ : List Dv → Option (Rs Dv) := aZ 3 fr
def T3 : bP := ("_law_name", 3, ["_law_script", "_law_at"], aJ) :: T2
theorem kQ (A : Af K "_law_name" (top 89) f) (t : HA P w K mg base T2) : HA P w K mg base T3 :=
 aq (aE XI Gn ["_law_script", "_law_at", "_law_some"] ["_law_script", "_law_at"] fr A (by walk_at "d") (by delta fr; walk_at "b")) t
def fu : FnS := (aD (bh 2 (bq (aa (fC (.str "/")) (aa (fC (.str "/x")) (aa (fC (.str "/x/")) (aa (fC (.str "/x/y")) (aa (fC (.str "/xy")) (aa (fC (.str "/x/y/z.q")) (aa (fC (.str "//")) (aa (fC (.str "/-_.9")) (aa (fC (.str "/x/y/")) ae))))))))))) (ay (f2 ixD (ac 2) (ag ah 3 (aa (ac 0) (aa (ac 1) (aa (fB1 eI (aa (ac 2) ae)) ae)))))))
def ce : List Dv → Option (Rs Dv) := aZ 3 fu
def T4 : bP := ("_law_path", 3, ["_law_script", "_law_at"], ce) :: T3
theorem kT (A : Af K "_law_path" (top 91) f) (t : HA P w K mg base T3) : HA P w K mg base T4 :=
 aq (aE XI Gn ["_law_script", "_law_at", "_law_some"] ["_law_script", "_law_at"] fu A (by walk_at "d") (by delta fu; walk_at "b")) t
def dq : FnS := (aD (bh 2 (f2 ixD (bq (aa (fC .non) (aa (ag aJ 2 (aa (ac 0) (aa (f2 cY (ac 1) (fC (.int 3))) ae))) (aa (ag aJ 2 (aa (ac 0) (aa (f2 cY (ac 1) (fC (.int 3))) ae))) ae)))) (ag ah 3 (aa (ac 0) (aa (f2 cY (ac 1) (fC (.int 2))) (aa (fC (.int 3)) ae)))))) (ay (aT (aa (f2 eqX (ag ah 3 (aa (ac 0) (aa (ac 1) (aa (fC (.int 2)) ae)))) (fC (.int 0))) (aa (ag aJ 2 (aa (ac 0) (aa (f2 cY (ac 1) (fC (.int 1))) ae))) (aa (ag ce 2 (aa (ac 0) (aa (f2 cY (ac 1) (fC (.int 4))) ae))) (aa (ac 2) ae)))))))
def cD : List Dv → Option (Rs Dv) := aZ 3 dq
def T5 : bP := ("_law_ask", 4, ["_law_script", "_law_at"], cD) :: T4
theorem lO (A : Af K "_law_ask" (top 92) f) (t : HA P w K mg base T4) : HA P w K mg base T5 :=
 aq (aE XI Gn ["_law_script", "_law_at", "_law_origin"] ["_law_script", "_law_at"] dq A (by walk_at "d") (by delta dq; walk_at "b")) t
def fw : FnS := (aD (bh 1 (fM (iV) (ac 0) (aa (fC (.str ".")) ae))) (ay (bg [("_law_parts", 1)] (fun ρ => bnd ((aa (fB1 eI (aa (ac 1) ae)) ae) ρ) iL) none (fM (pG) (fC (.str ".")) (aa (um (ac 1) (jy (ac 0)) j9) ae)))))
def fz : List Dv → Option (Rs Dv) := aZ 2 fw
def T6 : bP := ("_law_ends", 1, ["_law_name_here"], fz) :: T5
theorem kU (A : Af K "_law_ends" (top 94) f) (t : HA P w K mg base T5) : HA P w K mg base T6 :=
 aq (aE XI Gn ["_law_name_here", "_law_parts"] ["_law_name_here"] fw A (by walk_at "d") (by delta fw; walk_at "b")) t
def fA : FnS := (aD (bh 2 (ag fz 1 (aa (ac 1) ae))) (aD (bh 3 (aU 1 [("_law_table_here", 0)] (bY (ac 2)) (gN 0) (some (fB (f2 inD (f2 cY (fC (.str "!")) (ac 0)) (ac 1)))) (ac 0))) (aD (aR (fB (f2 neX (ac 3) (bq ae))) (ay (um (f2 ixD (ac 3) (fC (.int 0))) (jy (f2 cY (fM Ba (f2 ixD (ac 3) (fC (.int 0))) (aa (fC (.str ".")) ae)) (fC (.int 1)))) j9)) (fun ρ => some (.nx ρ))) (aD (bh 4 (aU 1 [("_law_table_here", 0)] (bY (ac 2)) (gN 0) (some (bOr (fB (f2 inD (ac 0) (ac 1))) (cX (fB (f2 inD (f2 cY (fC (.str "*")) (um (ac 0) (jy (fM (AV Txt.find) (ac 0) (aa (fC (.str ".")) ae))) j9)) (ac 1))) (fB (f2 inD (fC (.str ".")) (ac 0)))))) (ac 0))) (ay (f2 ixD (f2 cY (ac 4) (um (ac 2) (jy (f1 rL (fC (.int 1)))) j9)) (fC (.int 0))))))))
def iw : List Dv → Option (Rs Dv) := aZ 5 fA
def T7 : bP := ("_law_open", 2, ["_law_table_here", "_law_name_here"], iw) :: T6
theorem kW (A : Af K "_law_open" (top 95) f) (t : HA P w K mg base T6) : HA P w K mg base T7 :=
 aq (aE XI Gn ["_law_table_here", "_law_name_here", "_law_ends_here", "_law_called", "_law_met"] ["_law_table_here", "_law_name_here"] fA A (by walk_at "d") (by delta fA; walk_at "b")) t
def gA : FnS := (aD (bh 2 (ag fz 1 (aa (ac 1) ae))) (aD (bh 3 (aU 1 [("_law_table_here", 0), ("_law_name_here", 1)] (bY (ac 2)) (gN 0) (some (fB (f2 gtD (fB1 eI (aa (ac 0) ae)) (fB1 eI (aa (ag iw 2 (aa (ac 1) (aa (ac 2) ae))) ae))))) (ac 0))) (ay (fIf (fB (f2 neX (ac 3) (bq ae))) (f2 ixD (ac 3) (f1 rL (fC (.int 1)))) (fC .non)))))
def cF : List Dv → Option (Rs Dv) := aZ 4 gA
def T8 : bP := ("_law_own", 3, ["_law_table_here", "_law_name_here"], cF) :: T7
theorem lP (A : Af K "_law_own" (top 96) f) (t : HA P w K mg base T7) : HA P w K mg base T8 :=
 aq (aE XI Gn ["_law_table_here", "_law_name_here", "_law_ends_here", "_law_longer"] ["_law_table_here", "_law_name_here"] gA A (by walk_at "d") (by delta gA; walk_at "b")) t
def bC : FnS := (aD (aR (bOr (fB (f2 isN (f2 ixD (ac 1) (fC (.int 3))) (fC .non))) (fB (f2 eqX (f2 ixD (ac 1) (fC (.int 3))) (f2 ixD (ac 1) (fC (.int 1)))))) (ay (fC (.bl true))) (fun ρ => some (.nx ρ))) (ay (cT (f2 dC (ag cF 2 (aa (ac 0) (aa (f2 ixD (ac 1) (fC (.int 1))) ae))) (fC .non)) (f2 eqX (ag cF 2 (aa (ac 0) (aa (f2 ixD (ac 1) (fC (.int 1))) ae))) (ag cF 2 (aa (ac 0) (aa (f2 ixD (ac 1) (fC (.int 3))) ae)))))))
def aO : List Dv → Option (Rs Dv) := aZ 2 bC
def T9 : bP := ("_law_near", 4, ["_law_table_here", "_law_ask_here"], aO) :: T8
theorem kX (A : Af K "_law_near" (top 99) f) (t : HA P w K mg base T8) : HA P w K mg base T9 :=
 aq (aE XI Gn ["_law_table_here", "_law_ask_here"] ["_law_table_here", "_law_ask_here"] bC A (by walk_at "d") (by delta bC; walk_at "b")) t
def ef : FnS := (ay (vOr (f2 eqX (ac 0) (ac 1)) (cT (fM (ls Txt.startswith) (ac 0) (aa (ac 1) ae)) (vOr (fM (ls Txt.endswith) (ac 1) (aa (fC (.str "/")) ae)) (fM (ls Txt.startswith) (ac 0) (aa (f2 cY (ac 1) (fC (.str "/"))) ae))))))
def bD : List Dv → Option (Rs Dv) := aZ 2 ef
def T10 : bP := ("_law_under", 1, ["_law_path_here", "_law_top"], bD) :: T9
theorem jJ (A : Af K "_law_under" (top 98) f) (t : HA P w K mg base T9) : HA P w K mg base T10 :=
 aq (aE XI Gn ["_law_path_here", "_law_top"] ["_law_path_here", "_law_top"] ef A (by walk_at "d") (by delta ef; walk_at "b")) t
def dI : FnS := (ay (vOr (f2 eqX (ac 0) (ac 1)) (fM (ls Txt.endswith) (ac 0) (aa (f2 cY (fC (.str ".")) (ac 1)) ae))))
def bK : List Dv → Option (Rs Dv) := aZ 2 dI
def T11 : bP := ("_law_within", 1, ["_law_one", "_law_other"], bK) :: T10
theorem iM (A : Af K "_law_within" (top 97) f) (t : HA P w K mg base T10) : HA P w K mg base T11 :=
 aq (aE XI Gn ["_law_one", "_law_other"] ["_law_one", "_law_other"] dI A (by walk_at "d") (by delta dI; walk_at "b")) t
def fD : FnS := (aD (aR (cX (fB (f2 dC (f2 ixD (ac 1) (fC (.int 5))) (fC .non))) (fB (f2 leX (f2 ixD (ac 1) (fC (.int 5))) (ac 3)))) (ay (fC (.bl false))) (fun ρ => some (.nx ρ))) (aD (aR (cX (fB (f2 ixD (ac 1) (fC (.int 6)))) (bu (fB (f2 ixD (ac 2) (fC (.int 0)))))) (ay (fC (.bl false))) (fun ρ => some (.nx ρ))) (aD (aR (cX (fB (f2 neX (f2 ixD (ac 2) (fC (.int 1))) (f2 ixD (ac 1) (fC (.int 2))))) (bOr (fB (f2 ixD (ac 1) (fC (.int 3)))) (bu (fB (ag bK 2 (aa (f2 ixD (ac 2) (fC (.int 1))) (aa (f2 ixD (ac 1) (fC (.int 2))) ae))))))) (ay (fC (.bl false))) (fun ρ => some (.nx ρ))) (ay (cT (ag bD 2 (aa (f2 ixD (ac 2) (fC (.int 2))) (aa (f2 ixD (ac 1) (fC (.int 4))) ae))) (vOr (f2 eqX (f2 ixD (ac 1) (fC (.int 7))) (fC (.str "any"))) (ag aO 2 (aa (ac 0) (aa (ac 2) ae)))))))))
def cG : List Dv → Option (Rs Dv) := aZ 4 fD
def T12 : bP := ("_law_goes", 5, ["_law_table_here", "_law_note", "_law_ask_here", "_law_now"], cG) :: T11
theorem kY (A : Af K "_law_goes" (top 101) f) (t : HA P w K mg base T11) : HA P w K mg base T12 :=
 aq (aE XI Gn ["_law_table_here", "_law_note", "_law_ask_here", "_law_now"] ["_law_table_here", "_law_note", "_law_ask_here", "_law_now"] fD A (by walk_at "d") (by delta fD; walk_at "b")) t
def cK : FnS := (aD (bh 2 (ag cF 2 (aa (ac 0) (aa (f2 ixD (ac 1) (fC (.int 2))) ae)))) (ay (fIf (fB (f2 isN (ac 2) (fC .non))) (f2 ixD (ac 1) (fC (.int 2))) (ac 2))))
def aV : List Dv → Option (Rs Dv) := aZ 3 cK
def T13 : bP := ("_law_group", 4, ["_law_table_here", "_law_note"], aV) :: T12
theorem jK (A : Af K "_law_group" (top 100) f) (t : HA P w K mg base T12) : HA P w K mg base T13 :=
 aq (aE XI Gn ["_law_table_here", "_law_note", "_law_own_here"] ["_law_table_here", "_law_note"] cK A (by walk_at "d") (by delta cK; walk_at "b")) t
def aW : gX := (eU (fP 6 (f2 cC (f2 cC (ac 1) (fC (.int 1))) (f2 fI (fC (.int 14)) (ac 5)))) (eU (fP 4 (f2 cC (ac 4) (ag ah 3 (aa (ac 0) (aa (ac 6) (aa (fC (.int 4)) ae)))))) (eU (fP 7 (f2 ixD (bq (aa (fC (.str "n")) (aa (fC (.str "m-1")) (aa (fC (.str "safe-a")) (aa (fC (.str "N_2")) ae))))) (ag ah 3 (aa (ac 0) (aa (f2 cC (ac 6) (fC (.int 1))) (aa (fC (.int 4)) ae)))))) (eU (fP 8 (f2 ixD (bq (aa (fC (.str "5")) (aa (fC (.str "")) (aa (fC (.str "a!b~")) ae)))) (ag ah 3 (aa (ac 0) (aa (f2 cC (ac 6) (fC (.int 2))) (aa (fC (.int 3)) ae)))))) (eU (fP 9 (f2 ixD (bq (aa (fC .non) (aa (ag ah 3 (aa (ac 0) (aa (f2 cC (ac 6) (fC (.int 7))) (aa (fC (.int 60)) ae)))) ae))) (ag ah 3 (aa (ac 0) (aa (f2 cC (ac 6) (fC (.int 6))) (aa (fC (.int 2)) ae)))))) (eU (fP 10 (f2 eqX (ag ah 3 (aa (ac 0) (aa (f2 cC (ac 6) (fC (.int 4))) (aa (fC (.int 2)) ae)))) (fC (.int 0)))) (eU (fP 11 (aT (aa (ac 7) (aa (ac 8) (aa (ag aJ 2 (aa (ac 0) (aa (f2 cC (ac 6) (fC (.int 3))) ae))) (aa (ac 10) (aa (ag ce 2 (aa (ac 0) (aa (f2 cC (ac 6) (fC (.int 5))) ae))) ae))))))) (eU (fP 12 (f2 ixD (bq (aa (fC (.str "any")) (aa (fC (.str "any")) (aa (fC (.str "near")) ae)))) (ag ah 3 (aa (ac 0) (aa (f2 cC (ac 6) (fC (.int 9))) (aa (fC (.int 3)) ae)))))) (eU (fP 13 (f2 eqX (ag ah 3 (aa (ac 0) (aa (f2 cC (ac 6) (fC (.int 8))) (aa (fC (.int 2)) ae)))) (fC (.int 0)))) (eU (fP 14 (f2 cC (ac 4) (ag ah 3 (aa (ac 0) (aa (f2 cC (ac 6) (fC (.int 10))) (aa (fC (.int 5)) ae)))))) (eU (fP 15 (f2 cC (ac 11) (aT (aa (ac 9) (aa (ac 13) (aa (ac 12) (aa (ac 4) (aa (ac 14) ae)))))))) (vR 3 (fB (f2 eqX (bg [("_law_note", 15)] (bY (ac 3)) (some (fB (f2 eqX (aT (aa (f2 ixD (ac 0) (fC (.int 0))) (aa (f2 ixD (ac 0) (fC (.int 2))) (aa (f2 ixD (ac 0) (fC (.int 4))) ae)))) (aT (aa (f2 ixD (ac 1) (fC (.int 0))) (aa (f2 ixD (ac 1) (fC (.int 2))) (aa (f2 ixD (ac 1) (fC (.int 4))) ae))))))) (ac 0)) (bq ae))) (ux (ac 15)) Bb))))))))))))
def gB : FnS := (vU 3 ae (eU (fP 4 (fC (.int 0))) (eU (pX 5 [5, 6, 7, 8, 9, 10, 11, 12, 13, 14, 15] (fun ρ => bnd ((aa (ag ah 3 (aa (ac 0) (aa (ac 1) (aa (f2 cC (ac 2) (fC (.int 1))) ae)))) ae) ρ) iL) aW) (xz 3 (fB1 ij (aa (ac 3) ae))))))
def eM : List Dv → Option (Rs Dv) := aZ 16 gB
def T14 : bP := ("_law_jar", 4, ["_law_script", "_law_at", "_law_many"], eM) :: T13
theorem lQ (A : Af K "_law_jar" (top 93) f) (t : HA P w K mg base T13) : HA P w K mg base T14 :=
 aq (aE XI Gn ["_law_script", "_law_at", "_law_many", "_law_found", "_law_now", "_law_k", "_law_here", "_law_name_here", "_law_worth", "_law_ends_here", "_law_exact", "_law_head", "_law_reach", "_law_safe", "_law_late", "_law_note"] ["_law_script", "_law_at", "_law_many"] gB A (by walk_at "d") (by delta gB aW; walk_at "b")) t
def eN : FnS := (ay (aT (aa (f2 ixD (ac 0) (fC (.int 0))) (aa (f2 ixD (ac 0) (fC (.int 2))) (aa (f2 ixD (ac 0) (fC (.int 4))) ae)))))
def bL : List Dv → Option (Rs Dv) := aZ 1 eN
def T15 : bP := ("_law_key", 1, ["_law_note"], bL) :: T14
theorem lR (A : Af K "_law_key" (top 102) f) (t : HA P w K mg base T14) : HA P w K mg base T15 :=
 aq (aE XI Gn ["_law_note"] ["_law_note"] eN A (by walk_at "d") (by delta eN; walk_at "b")) t
def ei : FnS := (aD (bh 2 (bq (aa (fC (.str "!w.ck")) (aa (fC (.str "*.ck")) (aa (fC (.str "*.uk")) (aa (fC (.str "a.b")) (aa (fC (.str "b")) (aa (fC (.str "c.uk")) (aa (fC (.str "q")) (aa (fC (.str "uk")) ae)))))))))) (ay (fB1 ij (aa (aU 2 [("_law_script", 0), ("_law_at", 1)] (fun ρ => bnd ((aa (ac 2) ae) ρ) kj) (gP 0 1) (some (fB (f2 eqX (ag ah 3 (aa (ac 2) (aa (f2 cY (ac 3) (ac 0)) (aa (fC (.int 2)) ae)))) (fC (.int 0))))) (ac 1)) ae))))
def cL : List Dv → Option (Rs Dv) := aZ 3 ei
def T16 : bP := ("_law_table", 3, ["_law_script", "_law_at"], cL) :: T15
theorem jL (A : Af K "_law_table" (top 90) f) (t : HA P w K mg base T15) : HA P w K mg base T16 :=
 aq (aE XI Gn ["_law_script", "_law_at", "_law_some"] ["_law_script", "_law_at"] ei A (by walk_at "d") (by delta ei; walk_at "b")) t
def c6 : FnS := (aD (bh 1 (bq (aa (f1 (isX (fun c => if ([1, 3, 5, 6] : List Nat).contains c then some (c == 1) else none)) (ac 0)) (aa (f1 (isX (fun c => if ([1, 3, 5, 6] : List Nat).contains c then some (c == 5) else none)) (ac 0)) (aa (f1 (isX (fun c => if ([1, 3, 5, 6] : List Nat).contains c then some (c == 3) else none)) (ac 0)) ae))))) (aD (bh 1 (f2 cY (ac 1) (bq (aa (f1 (isX (fun c => if ([1, 3, 5, 6] : List Nat).contains c then some (c == 6) else none)) (ac 0)) ae)))) (aD (aR (bOr (fB (f2 neX (fML zg (ac 1) (aa (fC (.bl true)) ae)) (fC (.int 1)))) (bu (fB (f1 (isX (fun c => if ([1, 3, 5, 6] : List Nat).contains c then some true else none)) (ac 0))))) (ay (aT (aa (fC (.str "refused")) (aa (f1 rL (fC (.int 1))) ae)))) (fun ρ => some (.nx ρ))) (ay (aT (aa (fC (.str "refused")) (aa (fML AY (ac 1) (aa (fC (.bl true)) ae)) ae)))))))
def aM : List Dv → Option (Rs Dv) := aZ 2 c6
def TM1 : bP := ("_law_refused", 1, ["_law_e"], aM) :: TM0
theorem iy (A : Af K "_law_refused" (top 103) f) (tm : HAM P w K mg base TM0) : HAM P w K mg base TM1 :=
 tf (wy XI Gn ["_law_e", "_law_flags"] ["_law_e"] c6 A (by walk_at "d") (by delta c6; walk_at "b")) tm
def bQ : FnS := (aD (bh 1 (fM (iV) (ac 0) (aa (fC (.str ".")) ae))) (ay (bg [("parts", 1)] (fun ρ => bnd ((aa (fB1 eI (aa (ac 1) ae)) ae) ρ) iL) none (fM (pG) (fC (.str ".")) (aa (um (ac 1) (jy (ac 0)) j9) ae)))))
def bR : List Dv → Option (Rs Dv) := aZ 2 bQ
def T17 : bP := ("ends_longest_first", 1, ["name"], bR) :: T16
theorem el (A : Af K "ends_longest_first" (top 22) f) (t : HA P w K mg base T16) : HA P w K mg base T17 :=
 aq (aE XI Gn ["name", "parts"] ["name"] bQ A (by walk_at "d") (by delta bQ; walk_at "b")) t
def cr : FnS := (ay (f2 ixD (fM (si) (ac 0) (aa (fC (.str ".")) ae)) (fC (.int 2))))
def cu : List Dv → Option (Rs Dv) := aZ 1 cr
def T18 : bP := ("behind_first_dot", 1, ["end"], cu) :: T17
theorem fE (A : Af K "behind_first_dot" (top 23) f) (t : HA P w K mg base T17) : HA P w K mg base T18 :=
 aq (aE XI Gn ["end"] ["end"] cr A (by walk_at "d") (by delta cr; walk_at "b")) t
def de : FnS := (aD (aR (fB (f2 inD (ac 1) (ac 0))) (ay (fC (.bl true))) (fun ρ => some (.nx ρ))) (ay (cT (f2 inD (fC (.str ".")) (ac 1)) (f2 inD (f2 cY (fC (.str "*.")) (ag cu 1 (aa (ac 1) ae))) (ac 0)))))
def eY : List Dv → Option (Rs Dv) := aZ 2 de
def T19 : bP := ("is_told_open", 2, ["table", "end"], eY) :: T18
theorem iz (A : Af K "is_told_open" (top 24) f) (t : HA P w K mg base T18) : HA P w K mg base T19 :=
 aq (aE XI Gn ["table", "end"] ["table", "end"] de A (by walk_at "d") (by delta de; walk_at "b")) t
def dt : FnS := (aR (fB (f2 inD (f2 cY (fC (.str "!")) (ac 3)) (ac 0))) (ay (ag cu 1 (aa (ac 3) ae))) (fun ρ => some (.nx ρ)))
def du : FnS := (aR (fB (ag eY 2 (aa (ac 0) (aa (ac 3) ae)))) (ay (ac 3)) (fun ρ => some (.nx ρ)))
def c7 : FnS := (aD (bh 2 (ag bR 1 (aa (ac 1) ae))) (aD (lr 3 [] (bY (ac 2)) dt) (aD (lr 3 [3] (bY (ac 2)) du) (ay (f2 ixD (ac 2) (f1 rL (fC (.int 1))))))))
def er : List Dv → Option (Rs Dv) := aZ 4 c7
def T20 : bP := ("find_open_end", 3, ["table", "name"], er) :: T19
theorem gS (A : Af K "find_open_end" (top 25) f) (t : HA P w K mg base T19) : HA P w K mg base T20 :=
 aq (aE XI Gn ["table", "name", "ends", "end"] ["table", "name"] c7 A (by walk_at "d") (by delta c7 dt du; walk_at "b")) t
def df : FnS := (aD (bh 2 (ag er 2 (aa (ac 0) (aa (ac 1) ae)))) (aD (bh 3 (ag bR 1 (aa (ac 1) ae))) (aD (bh 4 (fML AY (ac 3) (aa (ac 2) ae))) (aD (aR (fB (f2 eqX (ac 4) (fC (.int 0)))) (ay (fC .non)) (fun ρ => some (.nx ρ))) (ay (f2 ixD (ac 3) (f2 vn (ac 4) (fC (.int 1)))))))))
def bf : List Dv → Option (Rs Dv) := aZ 5 df
def T21 : bP := ("find_own_end", 4, ["table", "name"], bf) :: T20
theorem iA (A : Af K "find_own_end" (top 26) f) (t : HA P w K mg base T20) : HA P w K mg base T21 :=
 aq (aE XI Gn ["table", "name", "end", "ends", "place"] ["table", "name"] df A (by walk_at "d") (by delta df; walk_at "b")) t
def aH : FnS := (aD (bh 2 (f2 ixD (ac 1) (fC (.int 1)))) (aD (bh 3 (f2 ixD (ac 1) (fC (.int 3)))) (aD (aR (bOr (fB (f2 isN (ac 3) (fC .non))) (fB (f2 eqX (ac 3) (ac 2)))) (ay (fC (.bl true))) (fun ρ => some (.nx ρ))) (aD (bh 4 (ag bf 2 (aa (ac 0) (aa (ac 2) ae)))) (ay (cT (f2 dC (ac 4) (fC .non)) (f2 eqX (ac 4) (ag bf 2 (aa (ac 0) (aa (ac 3) ae))))))))))
def ax : List Dv → Option (Rs Dv) := aZ 5 aH
def T22 : bP := ("comes_from_near", 5, ["table", "ask"], ax) :: T21
theorem gc (A : Af K "comes_from_near" (top 43) f) (t : HA P w K mg base T21) : HA P w K mg base T22 :=
 aq (aE XI Gn ["table", "ask", "house", "origin", "own"] ["table", "ask"] aH A (by walk_at "d") (by delta aH; walk_at "b")) t
def dJ : FnS := (ay (cT (f2 dC (f2 ixD (ac 0) (fC (.int 5))) (fC .non)) (f2 leX (f2 ixD (ac 0) (fC (.int 5))) (ac 1))))
def aP : List Dv → Option (Rs Dv) := aZ 2 dJ
def T23 : bP := ("has_ended", 1, ["note", "now"], aP) :: T22
theorem kZ (A : Af K "has_ended" (top 66) f) (t : HA P w K mg base T22) : HA P w K mg base T23 :=
 aq (aE XI Gn ["note", "now"] ["note", "now"] dJ A (by walk_at "d") (by delta dJ; walk_at "b")) t
def cV : FnS := (ay (vOr (f2 eqX (ac 0) (ac 1)) (fM (ls Txt.endswith) (ac 0) (aa (f2 cY (fC (.str ".")) (ac 1)) ae))))
def bc : List Dv → Option (Rs Dv) := aZ 2 cV
def T24 : bP := ("lies_within", 1, ["one", "other"], bc) :: T23
theorem iN (A : Af K "lies_within" (top 21) f) (t : HA P w K mg base T23) : HA P w K mg base T24 :=
 aq (aE XI Gn ["one", "other"] ["one", "other"] cV A (by walk_at "d") (by delta cV; walk_at "b")) t
def hX : FnS := (aD (aR (fB (f2 ixD (ac 0) (fC (.int 3)))) (ay (f2 eqX (f2 ixD (ac 0) (fC (.int 2))) (ac 1))) (fun ρ => some (.nx ρ))) (ay (ag bc 2 (aa (ac 1) (aa (f2 ixD (ac 0) (fC (.int 2))) ae)))))
def eP : List Dv → Option (Rs Dv) := aZ 2 hX
def T25 : bP := ("is_for", 2, ["note", "house"], eP) :: T24
theorem qU (A : Af K "is_for" (top 67) f) (t : HA P w K mg base T24) : HA P w K mg base T25 :=
 aq (aE XI Gn ["note", "house"] ["note", "house"] hX A (by walk_at "d") (by delta hX; walk_at "b")) t
def et : FnS := (aD (aR (fB (f2 eqX (ac 0) (ac 1))) (ay (fC (.bl true))) (fun ρ => some (.nx ρ))) (aD (aR (bu (fB (fM (ls Txt.startswith) (ac 0) (aa (ac 1) ae)))) (ay (fC (.bl false))) (fun ρ => some (.nx ρ))) (ay (vOr (fM (ls Txt.endswith) (ac 1) (aa (fC (.str "/")) ae)) (f2 eqX (f2 ixD (ac 0) (fB1 eI (aa (ac 1) ae))) (fC (.str "/")))))))
def cm : List Dv → Option (Rs Dv) := aZ 2 et
def T26 : bP := ("lies_under", 1, ["path", "top"], cm) :: T25
theorem jM (A : Af K "lies_under" (top 31) f) (t : HA P w K mg base T25) : HA P w K mg base T26 :=
 aq (aE XI Gn ["path", "top"] ["path", "top"] et A (by walk_at "d") (by delta et; walk_at "b")) t
def qV : FnS := (aD (aR (bOr (fB (ag aP 2 (aa (ac 1) (aa (ac 3) ae)))) (bu (fB (ag eP 2 (aa (ac 1) (aa (f2 ixD (ac 2) (fC (.int 1))) ae)))))) (ay (fC (.bl false))) (fun ρ => some (.nx ρ))) (aD (aR (bu (fB (ag cm 2 (aa (f2 ixD (ac 2) (fC (.int 2))) (aa (f2 ixD (ac 1) (fC (.int 4))) ae))))) (ay (fC (.bl false))) (fun ρ => some (.nx ρ))) (aD (aR (cX (fB (f2 ixD (ac 1) (fC (.int 6)))) (bu (fB (f2 ixD (ac 2) (fC (.int 0)))))) (ay (fC (.bl false))) (fun ρ => some (.nx ρ))) (ay (vOr (f2 eqX (f2 ixD (ac 1) (fC (.int 7))) (fC (.str "any"))) (ag ax 2 (aa (ac 0) (aa (ac 2) ae))))))))
def k6 : List Dv → Option (Rs Dv) := aZ 4 qV
def T27 : bP := ("goes", 6, ["table", "note", "ask", "now"], k6) :: T26
theorem wK (A : Af K "goes" (top 68) f) (t : HA P w K mg base T26) : HA P w K mg base T27 :=
 aq (aE XI Gn ["table", "note", "ask", "now"] ["table", "note", "ask", "now"] qV A (by walk_at "d") (by delta qV; walk_at "b")) t
def ez : FnS := (ay (bg [("table", 0), ("note", 1), ("asks", 2), ("now", 3)] (fun ρ => bnd ((aa (fB1 eI (aa (ac 2) ae)) ae) ρ) iL) (some (fB (ag k6 4 (aa (ac 1) (aa (ac 2) (aa (f2 ixD (ac 3) (ac 0)) (aa (ac 4) ae))))))) (ac 0)))
def iB : List Dv → Option (Rs Dv) := aZ 4 ez
def T28 : bP := ("asks_of", 7, ["table", "note", "asks", "now"], iB) :: T27
theorem ou (A : Af K "asks_of" (top 85) f) (t : HA P w K mg base T27) : HA P w K mg base T28 :=
 aq (aE XI Gn ["table", "note", "asks", "now"] ["table", "note", "asks", "now"] ez A (by walk_at "d") (by delta ez; walk_at "b")) t
def eC : FnS := (aD (aR (bu (fB (f1 (cB bB) (ac 0)))) (ay (fC (.bl false))) (fun ρ => some (.nx ρ))) (aD (aR (bOr (fB (f2 ltX (fB1 eI (aa (ac 0) ae)) (ac 2))) (fB (f2 gtD (fB1 eI (aa (ac 0) ae)) (ac 3)))) (ay (fC (.bl false))) (fun ρ => some (.nx ρ))) (ay (fB1 iT (aa (bg [("signs", 1)] (bY (ac 0)) none (f2 inD (ac 0) (ac 1))) ae)))))
def cM : List Dv → Option (Rs Dv) := aZ 4 eC
def T29 : bP := ("is_text_of", 1, ["thing", "signs", "least", "most"], cM) :: T28
theorem jN (A : Af K "is_text_of" (top 7) f) (t : HA P w K mg base T28) : HA P w K mg base T29 :=
 aq (aE XI Gn ["thing", "signs", "least", "most"] ["thing", "signs", "least", "most"] eC A (by walk_at "d") (by delta eC; walk_at "b")) t
def gC : FnS := (aD (aR (bu (fB (ag cM 4 (aa (ac 0) (aa (fC (.str "abcdefghijklmnopqrstuvwxyz0123456789-")) (aa (fC (.int 1)) (aa (fC (.int 8)) ae))))))) (ay (fC (.bl false))) (fun ρ => some (.nx ρ))) (ay (cT (eR (fM (ls Txt.startswith) (ac 0) (aa (fC (.str "-")) ae))) (eR (fM (ls Txt.endswith) (ac 0) (aa (fC (.str "-")) ae))))))
def jd : List Dv → Option (Rs Dv) := aZ 1 gC
def T30 : bP := ("is_label", 2, ["thing"], jd) :: T29
theorem lS (A : Af K "is_label" (top 16) f) (t : HA P w K mg base T29) : HA P w K mg base T30 :=
 aq (aE XI Gn ["thing"] ["thing"] gC A (by walk_at "d") (by delta gC; walk_at "b")) t
def iC : FnS := (aD (aR (bu (fB (f1 (cB bB) (ac 0)))) (ay (fC (.bl false))) (fun ρ => some (.nx ρ))) (aD (bh 1 (fM (iV) (ac 0) (aa (fC (.str ".")) ae))) (aD (aR (bOr (fB (f2 gtD (fB1 eI (aa (ac 1) ae)) (fC (.int 5)))) (bu (fB (fB1 iT (aa (bg [] (bY (ac 1)) none (ag jd 1 (aa (ac 0) ae))) ae))))) (ay (fC (.bl false))) (fun ρ => some (.nx ρ))) (ay (eR (ag cM 4 (aa (f2 ixD (ac 1) (f1 rL (fC (.int 1)))) (aa (fC (.str "0123456789")) (aa (fC (.int 1)) (aa (fC (.int 8)) ae))))))))))
def bt : List Dv → Option (Rs Dv) := aZ 2 iC
def T31 : bP := ("is_name", 3, ["thing"], bt) :: T30
theorem ov (A : Af K "is_name" (top 17) f) (t : HA P w K mg base T30) : HA P w K mg base T31 :=
 aq (aE XI Gn ["thing", "parts"] ["thing"] iC A (by walk_at "d") (by delta iC; walk_at "b")) t
def iD : FnS := (ay (cT (ag cM 4 (aa (ac 0) (aa (fC (.str "abcdefghijklmnopqrstuvwxyz0123456789-_./")) (aa (fC (.int 1)) (aa (fC (.int 20)) ae))))) (fM (ls Txt.startswith) (ac 0) (aa (fC (.str "/")) ae))))
def c8 : List Dv → Option (Rs Dv) := aZ 1 iD
def T32 : bP := ("is_path", 2, ["thing"], c8) :: T31
theorem ow (A : Af K "is_path" (top 30) f) (t : HA P w K mg base T31) : HA P w K mg base T32 :=
 aq (aE XI Gn ["thing"] ["thing"] iD A (by walk_at "d") (by delta iD; walk_at "b")) t
def cW : FnS := (ay (cT (f1 (cB br) (ac 0)) (f2 eqX (fB1 eI (aa (ac 0) ae)) (ac 1))))
def bM : List Dv → Option (Rs Dv) := aZ 2 cW
def T33 : bP := ("is_tuple_of", 1, ["thing", "parts"], bM) :: T32
theorem iO (A : Af K "is_tuple_of" (top 9) f) (t : HA P w K mg base T32) : HA P w K mg base T33 :=
 aq (aE XI Gn ["thing", "parts"] ["thing", "parts"] cW A (by walk_at "d") (by delta cW; walk_at "b")) t
def gd : FnS := (aD (aR (bu (fB (ag bM 2 (aa (ac 0) (aa (fC (.int 4)) ae))))) (ay (fC (.bl false))) (fun ρ => some (.nx ρ))) (ay (fB1 iT (aa (bq (aa (f1 (cB aI) (f2 ixD (ac 0) (fC (.int 0)))) (aa (ag bt 1 (aa (f2 ixD (ac 0) (fC (.int 1))) ae)) (aa (ag c8 1 (aa (f2 ixD (ac 0) (fC (.int 2))) ae)) (aa (vOr (f2 isN (f2 ixD (ac 0) (fC (.int 3))) (fC .non)) (ag bt 1 (aa (f2 ixD (ac 0) (fC (.int 3))) ae))) ae))))) ae))))
def eQ : List Dv → Option (Rs Dv) := aZ 1 gd
def T34 : bP := ("is_ask", 4, ["thing"], eQ) :: T33
theorem qW (A : Af K "is_ask" (top 42) f) (t : HA P w K mg base T33) : HA P w K mg base T34 :=
 aq (aE XI Gn ["thing"] ["thing"] gd A (by walk_at "d") (by delta gd; walk_at "b")) t
def bi : FnS := (aD (aR (bOr (bu (fB (f1 (cB pY) (ac 0)))) (fB (f2 gtD (fB1 eI (aa (ac 0) ae)) (fC (.int 9))))) (ay (fC (.bl false))) (fun ρ => some (.nx ρ))) (ay (fB1 iT (aa (bg [] (bY (ac 0)) none (ag eQ 1 (aa (ac 0) ae))) ae))))
def au : List Dv → Option (Rs Dv) := aZ 1 bi
def T35 : bP := ("is_list_of_asks", 5, ["thing"], au) :: T34
theorem gf (A : Af K "is_list_of_asks" (top 83) f) (t : HA P w K mg base T34) : HA P w K mg base T35 :=
 aq (aE XI Gn ["thing"] ["thing"] bi A (by walk_at "d") (by delta bi; walk_at "b")) t
def tz : FnS := (ay (aT (aa (f2 ixD (ac 0) (fC (.int 0))) (aa (f2 ixD (ac 0) (fC (.int 2))) (aa (f2 ixD (ac 0) (fC (.int 4))) ae)))))
def iE : List Dv → Option (Rs Dv) := aZ 1 tz
def T36 : bP := ("key", 1, ["note"], iE) :: T35
theorem Ap (A : Af K "key" (top 65) f) (t : HA P w K mg base T35) : HA P w K mg base T36 :=
 aq (aE XI Gn ["note"] ["note"] tz A (by walk_at "d") (by delta tz; walk_at "b")) t
def bz : FnS := (aD (bh 1 (aU 1 [] (bY (ac 0)) (gN 0) none (ag iE 1 (aa (ac 0) ae)))) (ay (f2 eqX (fB1 im (aa (ac 1) ae)) (fB1 eI (aa (ac 1) ae)))))
def bd : List Dv → Option (Rs Dv) := aZ 2 bz
def T37 : bP := ("has_no_key_twice", 2, ["notes"], bd) :: T36
theorem fF (A : Af K "has_no_key_twice" (top 73) f) (t : HA P w K mg base T36) : HA P w K mg base T37 :=
 aq (aE XI Gn ["notes", "keys"] ["notes"] bz A (by walk_at "d") (by delta bz; walk_at "b")) t
def eD : FnS := (ay (fB1 iT (aa (bg [("notes", 0)] (fun ρ => bnd ((aa (fC (.int 1)) (aa (fB1 eI (aa (ac 0) ae)) ae)) ρ) rK) none (f2 leX (f2 ixD (f2 ixD (ac 1) (f2 vn (ac 0) (fC (.int 1)))) (fC (.int 8))) (f2 ixD (f2 ixD (ac 1) (ac 0)) (fC (.int 8))))) ae)))
def db : List Dv → Option (Rs Dv) := aZ 1 eD
def T38 : bP := ("is_by_made", 1, ["notes"], db) :: T37
theorem jO (A : Af K "is_by_made" (top 72) f) (t : HA P w K mg base T37) : HA P w K mg base T38 :=
 aq (aE XI Gn ["notes"] ["notes"] eD A (by walk_at "d") (by delta eD; walk_at "b")) t
def bj : FnS := (aD (aR (bOr (bu (fB (f1 (cB bJ) (ac 0)))) (fB (f1 (cB aI) (ac 0)))) (ay (fC (.bl false))) (fun ρ => some (.nx ρ))) (ay (cT (f2 leX (ac 1) (ac 0)) (f2 leX (ac 0) (ac 2)))))
def bn : List Dv → Option (Rs Dv) := aZ 3 bj
def T39 : bP := ("is_whole_number", 1, ["thing", "least", "most"], bn) :: T38
theorem gg (A : Af K "is_whole_number" (top 8) f) (t : HA P w K mg base T38) : HA P w K mg base T39 :=
 aq (aE XI Gn ["thing", "least", "most"] ["thing", "least", "most"] bj A (by walk_at "d") (by delta bj; walk_at "b")) t
def dL : FnS := (ay (ag bn 3 (aa (ac 0) (aa (fC (.int 0)) (aa (fC (.int 9999)) ae)))))
def aQ : List Dv → Option (Rs Dv) := aZ 1 dL
def T40 : bP := ("is_moment", 2, ["thing"], aQ) :: T39
theorem k7 (A : Af K "is_moment" (top 39) f) (t : HA P w K mg base T39) : HA P w K mg base T40 :=
 aq (aE XI Gn ["thing"] ["thing"] dL A (by walk_at "d") (by delta dL; walk_at "b")) t
def aX : FnS := (ay (vOr (f2 isN (ac 0) (fC .non)) (ag aQ 1 (aa (ac 0) ae))))
def aK : List Dv → Option (Rs Dv) := aZ 1 aX
def T41 : bP := ("is_moment_or_none", 3, ["thing"], aK) :: T40
theorem eV (A : Af K "is_moment_or_none" (top 40) f) (t : HA P w K mg base T40) : HA P w K mg base T41 :=
 aq (aE XI Gn ["thing"] ["thing"] aX A (by walk_at "d") (by delta aX; walk_at "b")) t
def dg : FnS := (ay (ag cM 4 (aa (ac 0) (aa (fC (.str "abcdefghijklmnopqrstuvwxyzABCDEFGHIJKLMNOPQRSTUVWXYZ0123456789-_")) (aa (fC (.int 1)) (aa (fC (.int 10)) ae))))))
def bU : List Dv → Option (Rs Dv) := aZ 1 dg
def T42 : bP := ("is_note_name", 2, ["thing"], bU) :: T41
theorem iF (A : Af K "is_note_name" (top 49) f) (t : HA P w K mg base T41) : HA P w K mg base T42 :=
 aq (aE XI Gn ["thing"] ["thing"] dg A (by walk_at "d") (by delta dg; walk_at "b")) t
def gD : FnS := (ay (vOr (f2 eqX (ac 0) (fC (.str "any"))) (f2 eqX (ac 0) (fC (.str "near")))))
def gE : List Dv → Option (Rs Dv) := aZ 1 gD
def T43 : bP := ("is_reach", 1, ["thing"], gE) :: T42
theorem lT (A : Af K "is_reach" (top 51) f) (t : HA P w K mg base T42) : HA P w K mg base T43 :=
 aq (aE XI Gn ["thing"] ["thing"] gD A (by walk_at "d") (by delta gD; walk_at "b")) t
def gF : FnS := (aD (aR (bOr (bu (fB (f1 (cB bB) (ac 0)))) (fB (f2 gtD (fB1 eI (aa (ac 0) ae)) (fC (.int 12))))) (ay (fC (.bl false))) (fun ρ => some (.nx ρ))) (ay (fB1 iT (aa (bg [] (bY (ac 0)) none (cT (f2 leX (fC (.str "!")) (ac 0)) (cT (f2 leX (ac 0) (fC (.str "~"))) (f2 mP (ac 0) (fC (.str ";,=")))))) ae))))
def dv : List Dv → Option (Rs Dv) := aZ 1 gF
def T44 : bP := ("is_worth", 1, ["thing"], dv) :: T43
theorem lU (A : Af K "is_worth" (top 50) f) (t : HA P w K mg base T43) : HA P w K mg base T44 :=
 aq (aE XI Gn ["thing"] ["thing"] gF A (by walk_at "d") (by delta gF; walk_at "b")) t
def gh : FnS := (aD (aR (bu (fB (ag bM 2 (aa (ac 0) (aa (fC (.int 10)) ae))))) (ay (fC (.bl false))) (fun ρ => some (.nx ρ))) (aD (aR (bOr (bu (fB (ag aQ 1 (aa (f2 ixD (ac 0) (fC (.int 8))) ae)))) (bu (fB (ag aQ 1 (aa (f2 ixD (ac 0) (fC (.int 9))) ae))))) (ay (fC (.bl false))) (fun ρ => some (.nx ρ))) (ay (fB1 iT (aa (bq (aa (ag bU 1 (aa (f2 ixD (ac 0) (fC (.int 0))) ae)) (aa (ag dv 1 (aa (f2 ixD (ac 0) (fC (.int 1))) ae)) (aa (ag bt 1 (aa (f2 ixD (ac 0) (fC (.int 2))) ae)) (aa (f1 (cB aI) (f2 ixD (ac 0) (fC (.int 3)))) (aa (ag c8 1 (aa (f2 ixD (ac 0) (fC (.int 4))) ae)) (aa (ag aK 1 (aa (f2 ixD (ac 0) (fC (.int 5))) ae)) (aa (f1 (cB aI) (f2 ixD (ac 0) (fC (.int 6)))) (aa (ag gE 1 (aa (f2 ixD (ac 0) (fC (.int 7))) ae)) (aa (f2 leX (f2 ixD (ac 0) (fC (.int 8))) (f2 ixD (ac 0) (fC (.int 9)))) ae)))))))))) ae)))))
def bE : List Dv → Option (Rs Dv) := aZ 1 gh
def T45 : bP := ("is_note", 4, ["thing"], bE) :: T44
theorem oy (A : Af K "is_note" (top 64) f) (t : HA P w K mg base T44) : HA P w K mg base T45 :=
 aq (aE XI Gn ["thing"] ["thing"] gh A (by walk_at "d") (by delta gh; walk_at "b")) t
def dM : FnS := (aD (aR (bOr (bu (fB (f1 (cB br) (ac 0)))) (fB (f2 gtD (fB1 eI (aa (ac 0) ae)) (fC (.int 20))))) (ay (fC (.bl false))) (fun ρ => some (.nx ρ))) (aD (aR (bu (fB (fB1 iT (aa (bg [] (bY (ac 0)) none (ag bE 1 (aa (ac 0) ae))) ae)))) (ay (fC (.bl false))) (fun ρ => some (.nx ρ))) (ay (cT (ag db 1 (aa (ac 0) ae)) (ag bd 1 (aa (ac 0) ae))))))
def dN : List Dv → Option (Rs Dv) := aZ 1 dM
def T46 : bP := ("is_jar", 5, ["thing"], dN) :: T45
theorem qX (A : Af K "is_jar" (top 71) f) (t : HA P w K mg base T45) : HA P w K mg base T46 :=
 aq (aE XI Gn ["thing"] ["thing"] dM A (by walk_at "d") (by delta dM; walk_at "b")) t
def c9 : FnS := (aR (bu (fB (ag dN 1 (aa (ac 0) ae)))) (aL 5 (fC (.str "this is no jar"))) (fun ρ => some (.nx ρ)))
def ao : List Dv → Option (Rs Dv) := iX 1 c9
def TE1 : bP := ("need_jar", 6, ["thing"], ao) :: TE0
theorem lV (A : Af K "need_jar" (top 74) f) (t : HA P w K mg base T46) (te : HAE P w K mg base TE0) : HAE P w K mg base TE1 :=
 dH (fq XI Gn ["thing"] ["thing"] c9 A (by walk_at "d") (by delta c9; walk_at "b")) te
def bV : FnS := (aR (bu (fB (ag aQ 1 (aa (ac 0) ae)))) (aL 6 (fC (.str "this is no moment"))) (fun ρ => some (.nx ρ)))
def am : List Dv → Option (Rs Dv) := iX 1 bV
def TE2 : bP := ("need_moment", 3, ["thing"], am) :: TE1
theorem iP (A : Af K "need_moment" (top 41) f) (t : HA P w K mg base T46) (te : HAE P w K mg base TE1) : HAE P w K mg base TE2 :=
 dH (fq XI Gn ["thing"] ["thing"] bV A (by walk_at "d") (by delta bV; walk_at "b")) te
def iG : FnS := (aD (aR (bu (fB (f1 (cB bB) (ac 0)))) (ay (fC (.bl false))) (fun ρ => some (.nx ρ))) (aD (aR (fB (fM (ls Txt.startswith) (ac 0) (aa (fC (.str "*.")) ae))) (ay (ag bt 1 (aa (um (ac 0) (jy (fC (.int 2))) j9) ae))) (fun ρ => some (.nx ρ))) (aD (aR (fB (fM (ls Txt.startswith) (ac 0) (aa (fC (.str "!")) ae))) (ay (cT (f2 inD (fC (.str ".")) (ac 0)) (ag bt 1 (aa (um (ac 0) (jy (fC (.int 1))) j9) ae)))) (fun ρ => some (.nx ρ))) (ay (ag bt 1 (aa (ac 0) ae))))))
def k8 : List Dv → Option (Rs Dv) := aZ 1 iG
def T47 : bP := ("is_rule", 4, ["thing"], k8) :: T46
theorem oz (A : Af K "is_rule" (top 18) f) (t : HA P w K mg base T46) : HA P w K mg base T47 :=
 aq (aE XI Gn ["thing"] ["thing"] iG A (by walk_at "d") (by delta iG; walk_at "b")) t
def gG : FnS := (aD (aR (bOr (bu (fB (f1 (cB br) (ac 0)))) (fB (f2 gtD (fB1 eI (aa (ac 0) ae)) (fC (.int 8))))) (ay (fC (.bl false))) (fun ρ => some (.nx ρ))) (aD (aR (bu (fB (fB1 iT (aa (bg [] (bY (ac 0)) none (ag k8 1 (aa (ac 0) ae))) ae)))) (ay (fC (.bl false))) (fun ρ => some (.nx ρ))) (ay (fB1 iT (aa (bg [("thing", 0)] (fun ρ => bnd ((aa (fC (.int 1)) (aa (fB1 eI (aa (ac 0) ae)) ae)) ρ) rK) none (f2 ltX (f2 ixD (ac 1) (f2 vn (ac 0) (fC (.int 1)))) (f2 ixD (ac 1) (ac 0)))) ae)))))
def cH : List Dv → Option (Rs Dv) := aZ 1 gG
def T48 : bP := ("is_table", 5, ["thing"], cH) :: T47
theorem lW (A : Af K "is_table" (top 19) f) (t : HA P w K mg base T47) : HA P w K mg base T48 :=
 aq (aE XI Gn ["thing"] ["thing"] gG A (by walk_at "d") (by delta gG; walk_at "b")) t
def cw : FnS := (aR (bu (fB (ag cH 1 (aa (ac 0) ae)))) (aL 1 (fC (.str "this is no table"))) (fun ρ => some (.nx ρ)))
def al : List Dv → Option (Rs Dv) := iX 1 cw
def TE3 : bP := ("need_table", 6, ["thing"], al) :: TE2
theorem jP (A : Af K "need_table" (top 20) f) (t : HA P w K mg base T48) (te : HAE P w K mg base TE2) : HAE P w K mg base TE3 :=
 dH (fq XI Gn ["thing"] ["thing"] cw A (by walk_at "d") (by delta cw; walk_at "b")) te
def bN : FnS := (aD (a5 (aA al 1 (aa (ac 0) ae))) (aD (a5 (aA ao 1 (aa (ac 1) ae))) (aD (aR (bu (fB (ag au 1 (aa (ac 2) ae)))) (aL 3 (fC (.str "this is no list of up to 9 asks"))) (fun ρ => some (.nx ρ))) (aD (a5 (aA am 1 (aa (ac 3) ae))) (ay (bg [("table", 0), ("asks", 2), ("now", 3)] (bY (ac 1)) none (aT (aa (ag iE 1 (aa (ac 0) ae)) (aa (ag iB 4 (aa (ac 1) (aa (ac 0) (aa (ac 2) (aa (ac 3) ae))))) ae)))))))))
def cx : List Dv → Option (Rs Dv) := iX 4 bN
def TE4 : bP := ("along", 8, ["table", "jar", "asks", "now"], cx) :: TE3
theorem tD (A : Af K "along" (top 84) f) (t : HA P w K mg base T48) (te : HAE P w K mg base TE3) : HAE P w K mg base TE4 :=
 dH (fq XI Gn ["table", "jar", "asks", "now"] ["table", "jar", "asks", "now"] bN A (by walk_at "d") (by delta bN; walk_at "b")) te
def dA : FnS := (aD (bh 2 (ag bf 2 (aa (ac 0) (aa (f2 ixD (ac 1) (fC (.int 2))) ae)))) (aD (aR (fB (f2 isN (ac 2) (fC .non))) (ay (f2 ixD (ac 1) (fC (.int 2)))) (fun ρ => some (.nx ρ))) (ay (ac 2))))
def bw : List Dv → Option (Rs Dv) := aZ 3 dA
def T49 : bP := ("group_of", 5, ["table", "note"], bw) :: T48
theorem lX (A : Af K "group_of" (top 76) f) (t : HA P w K mg base T48) : HA P w K mg base T49 :=
 aq (aE XI Gn ["table", "note", "own"] ["table", "note"] dA A (by walk_at "d") (by delta dA; walk_at "b")) t
def cy : FnS := (aD (a5 (aA al 1 (aa (ac 0) ae))) (aD (a5 (aA ao 1 (aa (ac 1) ae))) (aD (bh 2 (bg [("table", 0)] (bY (ac 1)) none (ag bw 2 (aa (ac 1) (aa (ac 0) ae))))) (ay (bg [("names", 2)] (bY (fB1 gw (aa (ac 2) ae))) none (aT (aa (ac 0) (aa (fML zg (ac 1) (aa (ac 0) ae)) ae))))))))
def cO : List Dv → Option (Rs Dv) := iX 3 cy
def TE5 : bP := ("groups", 7, ["table", "jar"], cO) :: TE4
theorem qY (A : Af K "groups" (top 77) f) (t : HA P w K mg base T49) (te : HAE P w K mg base TE4) : HAE P w K mg base TE5 :=
 dH (fq XI Gn ["table", "jar", "names"] ["table", "jar"] cy A (by walk_at "d") (by delta cy; walk_at "b")) te
def bF : FnS := (ay (fB1 qK (aa (bg [("table", 0), ("group", 2)] (bY (ac 1)) (some (fB (f2 eqX (ag bw 2 (aa (ac 1) (aa (ac 0) ae))) (ac 2)))) (ag iE 1 (aa (ac 0) ae))) ae)))
def cz : List Dv → Option (Rs Dv) := aZ 3 bF
def T50 : bP := ("keys_of_group", 6, ["table", "jar", "group"], cz) :: T49
theorem gT (A : Af K "keys_of_group" (top 81) f) (t : HA P w K mg base T49) : HA P w K mg base T50 :=
 aq (aE XI Gn ["table", "jar", "group"] ["table", "jar", "group"] bF A (by walk_at "d") (by delta bF; walk_at "b")) t
def cf : FnS := (ay (bg [("table", 0), ("jar", 1)] (bY (aA cO 2 (aa (ac 0) (aa (ac 1) ae)))) none (aT (aa (f2 ixD (ac 0) (fC (.int 0))) (aa (ag cz 3 (aa (ac 1) (aa (ac 2) (aa (f2 ixD (ac 0) (fC (.int 0))) ae)))) ae)))))
def bG : List Dv → Option (Rs Dv) := iX 2 cf
def TE6 : bP := ("by_group", 8, ["table", "jar"], bG) :: TE5
theorem lY (A : Af K "by_group" (top 80) f) (t : HA P w K mg base T50) (te : HAE P w K mg base TE5) : HAE P w K mg base TE6 :=
 dH (fq XI Gn ["table", "jar"] ["table", "jar"] cf A (by walk_at "d") (by delta cf; walk_at "b")) te
def bH : FnS := (aD (a5 (aA ao 1 (aa (ac 0) ae))) (aD (a5 (aA am 1 (aa (ac 1) ae))) (aD (a5 (aA am 1 (aa (ac 2) ae))) (ay (bg [("now", 1), ("far", 2)] (bY (ac 0)) (some (cX (fB (ag aP 2 (aa (ac 0) (aa (f2 cY (ac 1) (ac 2)) ae)))) (bu (fB (ag aP 2 (aa (ac 0) (aa (ac 1) ae))))))) (ac 0))))))
def bW : List Dv → Option (Rs Dv) := iX 3 bH
def TE7 : bP := ("ending", 7, ["jar", "now", "far"], bW) :: TE6
theorem qZ (A : Af K "ending" (top 82) f) (t : HA P w K mg base T50) (te : HAE P w K mg base TE6) : HAE P w K mg base TE7 :=
 dH (fq XI Gn ["jar", "now", "far"] ["jar", "now", "far"] bH A (by walk_at "d") (by delta bH; walk_at "b")) te
def fG : FnS := (jF 7 5 6 (aD (aR (fB (f2 eqX (ac 0) (fC (.int 0)))) (ay (aA bG 2 (aa (ac 1) (aa (ac 2) ae)))) (fun ρ => some (.nx ρ))) (ay (fIf (fB (f2 eqX (ac 0) (fC (.int 1)))) (aA bW 3 (aa (ac 2) (aa (ac 3) (aa (ac 4) ae)))) (aA cx 4 (aa (ac 1) (aa (ac 2) (aa (ac 3) (aa (ac 4) ae)))))))) (ag aM 1 (aa (ac 5) ae)))
def aG : List Dv → Option (Rs Dv) := aZ 6 fG
def T51 : bP := ("_law_told", 9, ["_law_way", "_law_table_here", "_law_jar_here", "_law_one", "_law_other"], aG) :: T50
theorem k9 (A : Af K "_law_told" (top 104) f) (t : HA P w K mg base T50) (te : HAE P w K mg base TE7) (tm : HAM P w K mg base TM1) : HA P w K mg base T51 :=
 aq (aE XI Gn ["_law_way", "_law_table_here", "_law_jar_here", "_law_one", "_law_other", "_law_e"] ["_law_way", "_law_table_here", "_law_jar_here", "_law_one", "_law_other"] fG A (by walk_at "d") (by delta fG; walk_at "b")) t
def lZ : FnE := (ag cL 2 (aa (ac 0) (aa (fC (.int 0)) ae)))
def l4 : FnE := (ag eM 3 (aa (ac 0) (aa (fC (.int 20)) (aa (fC (.int 6)) ae))))
def jQ : FnE := (aU 1 [("_law_script", 0)] (fun ρ => bnd ((aa (ag ah 3 (aa (ac 0) (aa (fC (.int 110)) (aa (fC (.int 4)) ae)))) ae) ρ) iL) (gN 0) none (ag cD 2 (aa (ac 1) (aa (f2 cC (fC (.int 120)) (f2 fI (fC (.int 10)) (ac 0))) ae))))
def l7 : FnE := (ag ah 3 (aa (ac 0) (aa (fC (.int 111)) (aa (fC (.int 40)) ae))))
def l8 : FnE := (ag ah 3 (aa (ac 0) (aa (fC (.int 112)) (aa (fC (.int 40)) ae))))
def mf : FnE := (fB1 gw (aa (bg [("_law_table_here", 1)] (bY (ac 2)) none (ag aV 2 (aa (ac 1) (aa (ac 0) ae)))) ae))
def mh : FnE := (aU 1 [("_law_table_here", 1), ("_law_jar_here", 2)] (bY (ac 6)) (gN 0) none (aT (aa (ac 0) (aa (fB1 qK (aa (bg [("_law_name_here", 0), ("_law_table_here", 1)] (bY (ac 2)) (some (fB (f2 eqX (ag aV 2 (aa (ac 2) (aa (ac 0) ae))) (ac 1)))) (ag bL 1 (aa (ac 0) ae))) ae)) ae))))
def mi : FnB := (fB (f2 neX (ag aG 5 (aa (fC (.int 0)) (aa (ac 1) (aa (ac 2) (aa (fC .non) (aa (fC .non) ae)))))) (ac 7)))
def mj : FnE := (aU 1 [("_law_now", 4), ("_law_far", 5)] (bY (ac 2)) (gN 0) (some (cX (fB (f2 dC (f2 ixD (ac 0) (fC (.int 5))) (fC .non))) (fB (gK ltX leX (ac 1) (f2 ixD (ac 0) (fC (.int 5))) (f2 cC (ac 1) (ac 2)))))) (ac 0))
def ml : FnB := (fB (f2 neX (ag aG 5 (aa (fC (.int 1)) (aa (ac 1) (aa (ac 2) (aa (ac 4) (aa (ac 5) ae)))))) (ac 8)))
def dh : gX := (ux (aT (aa (ag bL 1 (aa (ac 10) ae)) (aa (aU 2 [("_law_table_here", 1), ("_law_now", 4), ("_law_note", 10)] (fun ρ => bnd ((aa (ac 3) ae) ρ) kj) (gP 0 1) (some (fB (ag cG 4 (aa (ac 2) (aa (ac 4) (aa (ac 1) (aa (ac 3) ae))))))) (ac 0)) ae))))
def iH : FnB := (fB (f2 neX (ag aG 5 (aa (fC (.int 2)) (aa (ac 1) (aa (ac 2) (aa (ac 3) (aa (ac 4) ae)))))) (ac 9)))
def mn : FnB := (fB (f2 neX (ag aG 5 (aa (fC (.int 1)) (aa (ac 1) (aa (ac 2) (aa (ac 11) (aa (fC .non) ae)))))) (aT (aa (fC (.str "refused")) (aa (fC (.int 3)) ae)))))
def mo : FnB := (fB (f2 neX (ag aG 5 (aa (fC (.int 1)) (aa (ac 1) (aa (ac 2) (aa (fC (.int 0)) (aa (ac 11) ae)))))) (aT (aa (fC (.str "refused")) (aa (fC (.int 3)) ae)))))
def mq : FnB := (fB (f2 neX (ag aG 5 (aa (fC (.int 2)) (aa (ac 1) (aa (ac 2) (aa (ac 3) (aa (ac 11) ae)))))) (aT (aa (fC (.str "refused")) (aa (fC (.int 3)) ae)))))
def mr : FnB := (fB (f2 neX (ag aG 5 (aa (fC (.int 2)) (aa (ac 1) (aa (ac 2) (aa (ac 11) (aa (fC .non) ae)))))) (aT (aa (fC (.str "refused")) (aa (fC (.int 2)) ae)))))
def fH : FnS := (aD (aR mn (ay (fC (.bl false))) (fun ρ => some (.nx ρ))) (aD (aR mo (ay (fC (.bl false))) (fun ρ => some (.nx ρ))) (aD (aR mq (ay (fC (.bl false))) (fun ρ => some (.nx ρ))) (aR mr (ay (fC (.bl false))) (fun ρ => some (.nx ρ))))))
def q8 : FnB := (fB (f2 neX (ag aG 5 (aa (fC (.int 2)) (aa (ac 1) (aa (ac 2) (aa (ac 11) (aa (fC .non) ae)))))) (aT (aa (fC (.str "refused")) (aa (fC (.int 2)) ae)))))
def gH : FnS := (aR q8 (ay (fC (.bl false))) (fun ρ => some (.nx ρ)))
def q9 : FnB := (fB (f2 neX (bg [("_law_table_here", 1), ("_law_bad", 11)] (fun ρ => bnd ((aa (fC (.int 3)) ae) ρ) iL) none (ag aG 5 (aa (ac 0) (aa (ac 1) (aa (ac 2) (aa (fC .non) (aa (fC .non) ae))))))) (f2 uA (bq (aa (aT (aa (fC (.str "refused")) (aa (fC (.int 1)) ae))) ae)) (fC (.int 3)))))
def gI : FnS := (aR q9 (ay (fC (.bl false))) (fun ρ => some (.nx ρ)))
def jR : FnE := (f2 eqX (bg [] (bY (aT (aa (fC (.int 0)) (aa (fC (.int 2)) ae)))) none (ag aG 5 (aa (ac 0) (aa (bq (aa (fC (.str "uk")) ae)) (aa (fC .non) (aa (fC .non) (aa (fC .non) ae))))))) (f2 uA (bq (aa (aT (aa (fC (.str "refused")) (aa (fC (.int 0)) ae))) ae)) (fC (.int 2))))
def rg : FnS := (aD (bh 1 lZ) (aD (bh 2 l4) (aD (bh 3 jQ) (aD (bh 4 l7) (aD (bh 5 l8) (aD (bh 6 mf) (aD (bh 7 mh) (aD (aR mi (ay (fC (.bl false))) (fun ρ => some (.nx ρ))) (aD (bh 8 mj) (aD (aR ml (ay (fC (.bl false))) (fun ρ => some (.nx ρ))) (vU 9 ae (eU (pX 10 [10] (bY (ac 2)) dh) (xA 9 (aD (aR iH (ay (fC (.bl false))) (fun ρ => some (.nx ρ))) (aD (lr 11 [] (bY (aT (aa (f1 rL (fC (.int 1))) (aa (fC (.int 10000)) (aa (fC .non) (aa (fC (.bl true)) (aa (fC (.str "1")) ae))))))) fH) (aD (lr 11 [] (bY (aT (aa (aT ae) (aa (bq (aa (aT ae) ae)) (aa (bq (aa (fC .non) ae)) (aa (f2 uA (bq (aa (aT (aa (fC (.bl true)) (aa (fC (.str "a.b")) (aa (fC (.str "/")) (aa (fC .non) ae))))) ae)) (fC (.int 10))) ae)))))) gH) (aD (lr 11 [11] (bY (aT (aa (fC .non) (aa (bq ae) (aa (aT (aa (aT ae) ae)) (aa (f2 cC (ac 2) (aT (aa (fC .non) ae))) ae)))))) gI) (ay jR))))))))))))))))))
def rh : List Dv → Option (Rs Dv) := aZ 12 rg
theorem Aq {fd : FuncData} (A : Fun K "law" "law" (top 105) f fd) (t : HA P w K mg base T51) : FnOk P w K mg base CX0 10 f fd ["_law_script"] (spF K rh 1) :=
 ug ["_law_script", "_law_table_here", "_law_jar_here", "_law_asks", "_law_now", "_law_far", "_law_names", "_law_due", "_law_soon", "_law_rows", "_law_note", "_law_bad"] ["_law_script"] rg (by kernel_rfl) (by kernel_rfl) A (Bc (by kernel_rfl)) (by delta rg lZ l4 jQ l7 l8 mf mh mi mj ml dh iH mn mo mq mr fH q8 gH q9 gI jR; walk_at "b")
end
theorem af {K : PySem.W.Frag} {x : Str} {st : Stmt} (f : Addr) (m : String) (t c : Nat) (a : nsM K x = some (some (.ref f)) := by kernel_rfl) (l : K.lookup f = some ⟨Value.type "function", none, .func (PySem.W.fnOf x x (gm st) (cq st) (ar st) .none .none .none (kS m t) none (kR c) .none), #[]⟩ := by kernel_rfl) (cc : PySem.W.codeIn K (kR c) x = true := by kernel_rfl) (k : PySem.W.keepIn K (.ref f) = true := by kernel_rfl) : Af K x st f := ⟨a, ⟨_, yi l cc k⟩, k⟩
theorem all_mk {l : PySem.W.OpenLaw} {w : World} {K : PySem.W.Frag} {h : Heap} {mg : Str → Option Value} {fa : Addr} (X : K.In h) (G : h.Ns mainGlobals mg) (hfa : mg "law" = some (.ref fa))
 {f1 f2 f3 f4 f5 f6 f7 f8 f9 f10 f11 f12 f13 f14 f15 f16 f17 f18 f19 f20 f21 f22 f23 f24 f25 f26 f27 f28 f29 f30 f31 f32 f33 f34 f35 f36 f37 f38 f39 f40 f41 f42 f43 f44 f45 f46 f47 f48 f49 f50 f51 f52 f53 f54 f55 f56 f57 f58 f59 fl : Addr}
 (A1 : Af K "_law_cell" (top 87) f1)
 (A2 : Af K "_law_drawn" (top 88) f2)
 (A3 : Af K "_law_name" (top 89) f3)
 (A4 : Af K "_law_path" (top 91) f4)
 (A5 : Af K "_law_ask" (top 92) f5)
 (A6 : Af K "_law_ends" (top 94) f6)
 (A7 : Af K "_law_open" (top 95) f7)
 (A8 : Af K "_law_own" (top 96) f8)
 (A9 : Af K "_law_near" (top 99) f9)
 (A10 : Af K "_law_under" (top 98) f10)
 (A11 : Af K "_law_within" (top 97) f11)
 (A12 : Af K "_law_goes" (top 101) f12)
 (A13 : Af K "_law_group" (top 100) f13)
 (A14 : Af K "_law_jar" (top 93) f14)
 (A15 : Af K "_law_key" (top 102) f15)
 (A16 : Af K "_law_table" (top 90) f16)
 (A17 : Af K "_law_refused" (top 103) f17)
 (A18 : Af K "ends_longest_first" (top 22) f18)
 (A19 : Af K "behind_first_dot" (top 23) f19)
 (A20 : Af K "is_told_open" (top 24) f20)
 (A21 : Af K "find_open_end" (top 25) f21)
 (A22 : Af K "find_own_end" (top 26) f22)
 (A23 : Af K "comes_from_near" (top 43) f23)
 (A24 : Af K "has_ended" (top 66) f24)
 (A25 : Af K "lies_within" (top 21) f25)
 (A26 : Af K "is_for" (top 67) f26)
 (A27 : Af K "lies_under" (top 31) f27)
 (A28 : Af K "goes" (top 68) f28)
 (A29 : Af K "asks_of" (top 85) f29)
 (A30 : Af K "is_text_of" (top 7) f30)
 (A31 : Af K "is_label" (top 16) f31)
 (A32 : Af K "is_name" (top 17) f32)
 (A33 : Af K "is_path" (top 30) f33)
 (A34 : Af K "is_tuple_of" (top 9) f34)
 (A35 : Af K "is_ask" (top 42) f35)
 (A36 : Af K "is_list_of_asks" (top 83) f36)
 (A37 : Af K "key" (top 65) f37)
 (A38 : Af K "has_no_key_twice" (top 73) f38)
 (A39 : Af K "is_by_made" (top 72) f39)
 (A40 : Af K "is_whole_number" (top 8) f40)
 (A41 : Af K "is_moment" (top 39) f41)
 (A42 : Af K "is_moment_or_none" (top 40) f42)
 (A43 : Af K "is_note_name" (top 49) f43)
 (A44 : Af K "is_reach" (top 51) f44)
 (A45 : Af K "is_worth" (top 50) f45)
 (A46 : Af K "is_note" (top 64) f46)
 (A47 : Af K "is_jar" (top 71) f47)
 (A48 : Af K "need_jar" (top 74) f48)
 (A49 : Af K "need_moment" (top 41) f49)
 (A50 : Af K "is_rule" (top 18) f50)
 (A51 : Af K "is_table" (top 19) f51)
 (A52 : Af K "need_table" (top 20) f52)
 (A53 : Af K "along" (top 84) f53)
 (A54 : Af K "group_of" (top 76) f54)
 (A55 : Af K "groups" (top 77) f55)
 (A56 : Af K "keys_of_group" (top 81) f56)
 (A57 : Af K "by_group" (top 80) f57)
 (A58 : Af K "ending" (top 82) f58)
 (A59 : Af K "_law_told" (top 104) f59)
 (AL : Af K "law" (top 105) fl) (ma : CC.all (Cp K) = true) {C1 C3 C5 C6 CJ : Addr} (cb : caB K [1, 3, 5, 6] [0, C1, 0, C3, 0, C5, C6] CJ 7 = true) :
 ∃ fd : FuncData, (∀ (s : Shared) (v : Value), BindsTo s fd ⟨[v], []⟩ [("_law_script", v)]) ∧ ∀ base : Heap, K.In base → base.Ns mainGlobals mg → FnOk l.prog w K mg base CX0 10 fa fd ["_law_script"] (spF K rh 1) := by
 have e := hfa.symm.trans (PySem.W.mg_of X G AL.a)
 cases e
 have M := zX X G CC ma
 obtain ⟨fd, Fn⟩ := AL.F
 refine ⟨fd, ?_, fun base _ _ => ?_⟩
 · obtain ⟨oc, od, kV, doc, pm, an, cdv, ct, osl, rfl, lk, hcd⟩ := Fn.ex
   exact fun s v => .of_eq rfl
 obtain ⟨xa, ca⟩ := CB X G cb
 have t0 : HA l.prog w K mg base T0 := zV
 have te0 : HAE l.prog w K mg base TE0 := wo
 have tm0 : HAM l.prog w K mg base TM0 := wp
 have t1 := kP X G M xa ca A1 t0
 have t2 := jI X G M xa ca A2 t1
 have t3 := kQ X G M xa ca A3 t2
 have t4 := kT X G M xa ca A4 t3
 have t5 := lO X G M xa ca A5 t4
 have t6 := kU X G M xa ca A6 t5
 have t7 := kW X G M xa ca A7 t6
 have t8 := lP X G M xa ca A8 t7
 have t9 := kX X G M xa ca A9 t8
 have t10 := jJ X G M xa ca A10 t9
 have t11 := iM X G M xa ca A11 t10
 have t12 := kY X G M xa ca A12 t11
 have t13 := jK X G M xa ca A13 t12
 have t14 := lQ X G M xa ca A14 t13
 have t15 := lR X G M xa ca A15 t14
 have t16 := jL X G M xa ca A16 t15
 have tm1 := iy X G M xa ca A17 tm0
 have t17 := el X G M xa ca A18 t16
 have t18 := fE X G M xa ca A19 t17
 have t19 := iz X G M xa ca A20 t18
 have t20 := gS X G M xa ca A21 t19
 have t21 := iA X G M xa ca A22 t20
 have t22 := gc X G M xa ca A23 t21
 have t23 := kZ X G M xa ca A24 t22
 have t24 := iN X G M xa ca A25 t23
 have t25 := qU X G M xa ca A26 t24
 have t26 := jM X G M xa ca A27 t25
 have t27 := wK X G M xa ca A28 t26
 have t28 := ou X G M xa ca A29 t27
 have t29 := jN X G M xa ca A30 t28
 have t30 := lS X G M xa ca A31 t29
 have t31 := ov X G M xa ca A32 t30
 have t32 := ow X G M xa ca A33 t31
 have t33 := iO X G M xa ca A34 t32
 have t34 := qW X G M xa ca A35 t33
 have t35 := gf X G M xa ca A36 t34
 have t36 := Ap X G M xa ca A37 t35
 have t37 := fF X G M xa ca A38 t36
 have t38 := jO X G M xa ca A39 t37
 have t39 := gg X G M xa ca A40 t38
 have t40 := k7 X G M xa ca A41 t39
 have t41 := eV X G M xa ca A42 t40
 have t42 := iF X G M xa ca A43 t41
 have t43 := lT X G M xa ca A44 t42
 have t44 := lU X G M xa ca A45 t43
 have t45 := oy X G M xa ca A46 t44
 have t46 := qX X G M xa ca A47 t45
 have te1 := lV X G M xa ca A48 t46 te0
 have te2 := iP X G M xa ca A49 t46 te1
 have t47 := oz X G M xa ca A50 t46
 have t48 := lW X G M xa ca A51 t47
 have te3 := jP X G M xa ca A52 t48 te2
 have te4 := tD X G M xa ca A53 t48 te3
 have t49 := lX X G M xa ca A54 t48
 have te5 := qY X G M xa ca A55 t49 te4
 have t50 := gT X G M xa ca A56 t49
 have te6 := lY X G M xa ca A57 t50 te5
 have te7 := qZ X G M xa ca A58 t50 te6
 have t51 := k9 X G M xa ca A59 t50 te7 tm1
 exact Aq X G M xa ca Fn t51
end G
set_option maxHeartbeats 4000000
namespace FD
open PySem PySem.Spec PyProof.Rows L2
theorem nI {elt : FnE} {cap : Ev} {α : Type} (en : α → Dv) (f : α → Dv) : ∀ {l : List α}, (∀ a ∈ l, elt (cap.set 0 (some (en a))) = some (.ok (f a))) → pB none elt cap (l.map en) = some (l.map f)
 | [], _ => rfl
 | a :: l, h => by
  have ih := nI (elt := elt) (cap := cap) en f (l := l) fun b hb => h b (List.mem_cons_of_mem _ hb)
  rw [List.map_cons, List.map_cons]
  unfold pB
  dsimp only
  rw [h a List.mem_cons_self, ih]
theorem la {tst : FnB} {elt : FnE} {cap : Ev} {α : Type} (en : α → Dv) (p : α → Bool) (f : α → Dv) : ∀ {l : List α}, (∀ a ∈ l, tst (cap.set 0 (some (en a))) = some (.ok (p a)) ∧ elt (cap.set 0 (some (en a))) = some (.ok (f a))) → pB (some tst) elt cap (l.map en) = some ((l.filter p).map f)
 | [], _ => rfl
 | a :: l, h => by
  have ih := la (tst := tst) (elt := elt) (cap := cap) en p f (l := l) fun b hb => h b (List.mem_cons_of_mem _ hb)
  obtain ⟨h1, h2⟩ := h a List.mem_cons_self
  rw [List.map_cons]
  unfold pB
  dsimp only
  rw [h1, ih]
  cases q : p a with
  | true => dsimp only; rw [h2, List.filter_cons_of_pos q]; rfl
  | false => dsimp only; rw [List.filter_cons_of_neg (by rw [q]; decide)]
theorem nJ {elt : FnE} {cap : Ev} {α : Type} (en : α → Dv) (f : α → Dv) : ∀ {l : List α}, (∀ a ∈ l, elt (cap.set 0 (some (en a))) = some (.ok (f a))) → fj (gN 0) none elt cap (l.map en) = some (l.map f)
 | [], _ => rfl
 | a :: l, h => by
  have ih := nJ (elt := elt) (cap := cap) en f (l := l) fun b hb => h b (List.mem_cons_of_mem _ hb)
  rw [List.map_cons, List.map_cons]
  unfold fj
  show (match elt (cap.set 0 (some (en a))) with | some (.ok y) => _ | _ => _) = _
  rw [h a List.mem_cons_self, ih]
theorem lb {tst : FnB} {elt : FnE} {cap : Ev} {α : Type} (en : α → Dv) (p : α → Bool) (f : α → Dv) : ∀ {l : List α}, (∀ a ∈ l, tst (cap.set 0 (some (en a))) = some (.ok (p a)) ∧ elt (cap.set 0 (some (en a))) = some (.ok (f a))) → fj (gN 0) (some tst) elt cap (l.map en) = some ((l.filter p).map f)
 | [], _ => rfl
 | a :: l, h => by
  have ih := lb (tst := tst) (elt := elt) (cap := cap) en p f (l := l) fun b hb => h b (List.mem_cons_of_mem _ hb)
  obtain ⟨h1, h2⟩ := h a List.mem_cons_self
  rw [List.map_cons]
  unfold fj
  show (match tst (cap.set 0 (some (en a))) with | some (.ok true) => _ | some (.ok false) => _ | _ => _) = _
  rw [h1, ih]
  cases q : p a with
  | true => dsimp only; rw [h2, List.filter_cons_of_pos q]; rfl
  | false => dsimp only; rw [List.filter_cons_of_neg (by rw [q]; decide)]
theorem cA {cs : List (Str × Nat)} {src : FnA} {elt : FnE} {ρ : Ev} {α : Type} (en f : α → Dv) {l : List α} (hs : src ρ = some (.ok (l.map en))) (hl : l.length ≤ 100000) (h : ∀ a ∈ l, elt ((uh cs ρ).set 0 (some (en a))) = some (.ok (f a))) : bg cs src none elt ρ = some (.ok (.lst (l.map f))) := by
 unfold bg
 rw [hs]
 show (match pB none elt (uh cs ρ) (l.map en) with | some ys => _ | none => _) = _
 rw [nI en f h]
 dsimp only
 rw [if_pos ⟨by simpa using hl, by simpa using hl⟩]
theorem eE {cs : List (Str × Nat)} {src : FnA} {tst : FnB} {elt : FnE} {ρ : Ev} {α : Type} (en : α → Dv) (p : α → Bool) (f : α → Dv) {l : List α} (hs : src ρ = some (.ok (l.map en))) (hl : l.length ≤ 100000) (h : ∀ a ∈ l, tst ((uh cs ρ).set 0 (some (en a))) = some (.ok (p a)) ∧ elt ((uh cs ρ).set 0 (some (en a))) = some (.ok (f a))) :
 bg cs src (some tst) elt ρ = some (.ok (.lst ((l.filter p).map f))) := by
 unfold bg
 rw [hs]
 show (match pB (some tst) elt (uh cs ρ) (l.map en) with | some ys => _ | none => _) = _
 rw [la en p f h]
 dsimp only
 have := List.length_filter_le p l
 rw [if_pos ⟨by simp; omega, by simpa using hl⟩]
theorem lc {cs : List (Str × Nat)} {src : FnA} {elt : FnE} {ρ : Ev} {α : Type} (en f : α → Dv) {l : List α} (hs : src ρ = some (.ok (l.map en))) (hl : l.length ≤ 100000) (h : ∀ a ∈ l, elt ((eL 1 cs ρ).set 0 (some (en a))) = some (.ok (f a))) : aU 1 cs src (gN 0) none elt ρ = some (.ok (.lst (l.map f))) := by
 unfold aU
 rw [hs]
 show (match fj (gN 0) none elt (eL 1 cs ρ) (l.map en) with | some ys => _ | none => _) = _
 rw [nJ en f h]
 dsimp only
 rw [if_pos ⟨by simpa using hl, by simpa using hl⟩]
theorem oA {cs : List (Str × Nat)} {src : FnA} {tst : FnB} {elt : FnE} {ρ : Ev} {α : Type} (en : α → Dv) (p : α → Bool) (f : α → Dv) {l : List α} (hs : src ρ = some (.ok (l.map en))) (hl : l.length ≤ 100000) (h : ∀ a ∈ l, tst ((eL 1 cs ρ).set 0 (some (en a))) = some (.ok (p a)) ∧ elt ((eL 1 cs ρ).set 0 (some (en a))) = some (.ok (f a))) :
 aU 1 cs src (gN 0) (some tst) elt ρ = some (.ok (.lst ((l.filter p).map f))) := by
 unfold aU
 rw [hs]
 show (match fj (gN 0) (some tst) elt (eL 1 cs ρ) (l.map en) with | some ys => _ | none => _) = _
 rw [lb en p f h]
 dsimp only
 have := List.length_filter_le p l
 rw [if_pos ⟨by simp; omega, by simpa using hl⟩]
theorem wL {i j : Int} (h : -(2 ^ 62) ≤ i ∧ i < 2 ^ 62 ∧ -(2 ^ 62) ≤ j ∧ j < 2 ^ 62) : rK [.int i, .int j] = some (.ok (rng i (j - i).toNat)) := by rw [rK, if_pos h]
theorem wM {j : Int} (h : -(2 ^ 62) ≤ j ∧ j < 2 ^ 62) : iL [.int j] = some (.ok (rng 0 j.toNat)) := by rw [iL, if_pos h]
theorem wN {n : Nat} (h : n ≤ 1000) : -(2 ^ 62) ≤ (1 : Int) ∧ (1 : Int) < 2 ^ 62 ∧ -(2 ^ 62) ≤ (n : Int) ∧ (n : Int) < 2 ^ 62 := by omega
theorem Ar {n : Nat} (h : n ≤ 1000) : rK [.int 1, .int (n : Int)] = some (.ok (rng 1 ((n : Int) - 1).toNat)) := wL (wN h)
theorem nK {n : Nat} (h : n ≤ 1000) : iL [.int (n : Int)] = some (.ok (rng 0 n)) := by
 rw [wM (by omega)]; rfl
theorem lf {α : Type} (p : α → Bool) : ∀ l : List α, ii (l.map fun a => Dv.bl (p a)) = some (l.map p)
 | [] => rfl
 | a :: l => by
  show (match ii (l.map fun a => Dv.bl (p a)) with | some bs => some (p a :: bs) | none => none) = _
  rw [lf p l]
  rfl
mutual
def pln : Dv → Bool
 | .exn _ => false
 | .tup ds => plns ds
 | .lst ds => plns ds
 | _ => true
def plns : List Dv → Bool
 | [] => true
 | d :: ds => pln d && plns ds
end
mutual
theorem nM : ∀ d : Dv, pln d = true → PyData.eqv (dE d) (dE d) = true
 | .non, _ => by simp [dE, PyData.eqv]
 | .bl b, _ => by simp [dE, PyData.eqv]
 | .int b, _ => by simp [dE, PyData.eqv]
 | .str b, _ => by simp [dE, PyData.eqv]
 | .tup ds, h => by simp only [dE, PyData.eqv]; exact eqvs_refl ds (by simpa [pln] using h)
 | .lst ds, h => by simp only [dE, PyData.eqv]; exact eqvs_refl ds (by simpa [pln] using h)
 | .scr ns, _ => by
  simp only [dE, PyData.eqv]
  induction ns with
  | nil => simp [PyData.eqvAll]
  | cons n ns ih => simp [PyData.eqvAll, PyData.eqv]; exact ih rfl
 | .exn _, h => by simp [pln] at h
theorem eqvs_refl : ∀ ds : List Dv, plns ds = true → PyData.eqvAll (toPys ds) (toPys ds) = true
 | [], _ => by simp [toPys, PyData.eqvAll]
 | d :: ds, h => by
  have h' : pln d = true ∧ plns ds = true := by simpa [plns] using h
  simp only [toPys, PyData.eqvAll, Bool.and_eq_true]
  exact ⟨nM d h'.1, eqvs_refl ds h'.2⟩
end
theorem wO {d : Dv} (h1 : okP d = true) (h2 : pln d = true) : neX d d = some (.ok (.bl false)) := by
 unfold neX
 split
 · rename_i b hb
   have : b = true := by
    cases d <;> simp [eqS] at hb
    · exact hb
    · exact hb
    · exact hb
    · rw [← hb]; unfold seq; simp
   rw [this]; rfl
 · rw [h1, nM d h2]; rfl
structure It1 (k : Nat) (d : Dv) : Prop where
 c : PyData.canLay0 (dE d) = true
 dp : (dE d).depth ≤ k
 p : pln d = true
theorem wP {k : Nat} : ∀ {ds : List Dv}, (∀ d ∈ ds, It1 k d) → PyData.canLayAll0 (toPys ds) = true ∧ PyData.depthAll (toPys ds) ≤ k ∧ plns ds = true
 | [], _ => by simp [toPys, PyData.canLayAll0, PyData.depthAll, plns]
 | d :: ds, h => by
  obtain ⟨h1, h2, h3⟩ := wP (ds := ds) fun d' hd => h d' (List.mem_cons_of_mem _ hd)
  have h0 := h d List.mem_cons_self
  simp only [toPys, PyData.canLayAll0, PyData.depthAll, plns, Bool.and_eq_true]
  exact ⟨⟨h0.c, h1⟩, by have := h0.dp; omega, h0.p, h3⟩
theorem nN {k : Nat} {ds : List Dv} (h : ∀ d ∈ ds, It1 k d) : It1 (k + 1) (.tup ds) := by
 obtain ⟨h1, h2, h3⟩ := wP h
 exact ⟨by simpa [dE, PyData.canLay0] using h1, by simp [dE, PyData.depth]; exact h2, by simpa [pln] using h3⟩
theorem lg {k : Nat} {ds : List Dv} (h : ∀ d ∈ ds, It1 k d) : It1 (k + 1) (.lst ds) := by
 obtain ⟨h1, h2, h3⟩ := wP h
 exact ⟨by simpa [dE, PyData.canLay0] using h1, by simp [dE, PyData.depth]; exact h2, by simpa [pln] using h3⟩
theorem It1.okP {k : Nat} {d : Dv} (h : It1 k d) (hk : k ≤ 64) : okP d = true := by
 unfold FD.okP SeqAt.shaped
 rw [h.c]
 have := h.dp
 simp
 omega
theorem It1.le {k m : Nat} {d : Dv} (h : It1 k d) (hk : k ≤ m) : It1 m d := ⟨h.c, Nat.le_trans h.dp hk, h.p⟩
theorem gi {x : Str} (h : PyData.canLay0 (.str x) = true) : It1 0 (.str x) := ⟨h, by simp [dE, PyData.depth], rfl⟩
theorem nO {i : Int} : It1 0 (.int i) := ⟨rfl, by simp [dE, PyData.depth], rfl⟩
theorem As {i : Bool} : It1 0 (.bl i) := ⟨rfl, by simp [dE, PyData.depth], rfl⟩
theorem At : It1 0 .non := ⟨rfl, by simp [dE, PyData.depth], rfl⟩
end FD
namespace G
open PySem PySem.Spec PyProof.Rows L2 FD
theorem tE {n : Nat} {B : FnS} {ds : List Dv} {d : Dv} (h : B (ds.map some ++ List.replicate (n - ds.length) none) = some (.rt d)) : iX n B ds = some (.ok d) := by unfold iX; rw [h]
theorem rM {n : Nat} {B : FnS} {ds : List Dv} {c : Nat} (h : B (ds.map some ++ List.replicate (n - ds.length) none) = some (.exc c)) : iX n B ds = some (.exc c) := by unfold iX; rw [h]
theorem cE (F : List Dv → Option (Rs Dv)) {n : Nat} {g : FnA} {ρ : Ev} {ds : List Dv} {r : Option (Rs Dv)} (h : g ρ = some (.ok ds)) (hl : ds.length = n) (hF : F ds = r) : aA F n g ρ = r := by
 unfold aA
 rw [h, ← hF]
 exact if_pos hl
theorem Em {v : FnE} {ρ : Ev} {c : Nat} (h : v ρ = some (.exc c)) : a5 v ρ = some (.exc c) := by unfold a5; rw [h]; rfl
theorem CG {v : FnE} {ρ : Ev} {c : Nat} (h : v ρ = some (.exc c)) : ay v ρ = some (.exc c) := by unfold ay; rw [h]; rfl
theorem tG {a b : FnS} {ρ : Ev} {c : Nat} (h : a ρ = some (.exc c)) : aD a b ρ = some (.exc c) := by unfold aD; rw [h]; rfl
theorem Au {m i N : Nat} {f : FnS} {g : FnE} {ρ : Ev} {d : Dv} (h : f ρ = some (.rt d)) : jF m i N f g ρ = some (.rt d) := by unfold jF; rw [h]
theorem tH {m i N : Nat} {f : FnS} {g : FnE} {ρ : Ev} {c : Nat} {d : Dv} (h : f ρ = some (.exc c)) (hc : c < m) (hg : g ((List.replicate N none).set i (some (.exn c))) = some (.ok d)) : jF m i N f g ρ = some (.rt d) := by
 unfold jF
 rw [h]
 dsimp only
 rw [if_pos hc, hg]
theorem CH {c : FnB} {f : FnS} {g : FnS} {ρ : Ev} {k : Nat} (h : c ρ = some (.ok true)) (hf : f ρ = some (.exc k)) : aR c f g ρ = some (.exc k) := by rw [wB h, hf]
theorem wQ {cs : List (Str × Nat)} {src : FnA} {tst : Option FnB} {elt : FnE} {ρ : Ev} {c : Nat} (h : src ρ = some (.exc c)) : bg cs src tst elt ρ = some (.exc c) := by unfold bg; rw [h]; rfl
theorem Av {f : FnE} {ρ : Ev} {c : Nat} (h : f ρ = some (.exc c)) : bY f ρ = some (.exc c) := by unfold bY; rw [h]; rfl
theorem wR (ns : List Int) (hl : ns.length ≤ 63) (k : Int) : ∃ c, b5 [.scr ns, .int k] = some (.ok (.int c)) := by
 cases ns with
 | nil => exact ⟨7 * k, by kernel_rfl⟩
 | cons n r =>
  have h0 : 0 < (n :: r).length := by simp
  have h1 : (0 : Int) < ((n :: r).length : Int) := by omega
  have h2 : ((n :: r).length : Int) < 1073741824 := by omega
  have h3 : 0 ≤ k % ((n :: r).length : Int) := Int.emod_nonneg _ (by omega)
  have h4 : k % ((n :: r).length : Int) < ((n :: r).length : Int) := Int.emod_lt_of_pos _ h1
  have h5 : (k % ((n :: r).length : Int)).toNat < (n :: r).length := by omega
  refine ⟨(n :: r)[(k % ((n :: r).length : Int)).toNat] + 6553 * (k / ((n :: r).length : Int)), ?_⟩
  have hat : atD (n :: r) (k % ((n :: r).length : Int)) = some (n :: r)[(k % ((n :: r).length : Int)).toNat] := by
   unfold atD
   rw [if_pos h3, List.getElem?_eq_getElem h5]
  have hm : fJ (.int k) (.int ((n :: r).length : Int)) = some (.ok (.int (k % ((n :: r).length : Int)))) := by
   show (if 0 < ((n :: r).length : Int) then _ else _) = _
   rw [if_pos h1]
  have hd : fN (.int k) (.int ((n :: r).length : Int)) = some (.ok (.int (k / ((n :: r).length : Int)))) := by
   show (if 0 < ((n :: r).length : Int) ∧ ((n :: r).length : Int) < 1073741824 then _ else _) = _
   rw [if_pos ⟨h1, h2⟩]
  have hi : ixD (.scr (n :: r)) (.int (k % ((n :: r).length : Int))) = some (.ok (.int (n :: r)[(k % ((n :: r).length : Int)).toNat])) := by
   show (match atD (n :: r) (k % ((n :: r).length : Int)) with | some d => _ | none => _) = _
   rw [hat]
  show (match c5 [some (.scr (n :: r)), some (.int k)] with | some (.nx _) => _ | some (.rt d) => _ | _ => _) = _
  have e : c5 [some (.scr (n :: r)), some (.int k)] = bI (bnd (bnd (fJ (.int k) (.int ((n :: r).length : Int))) fun i => ixD (.scr (n :: r)) i) fun x => bnd (bnd (fN (.int k) (.int ((n :: r).length : Int))) fun q => fI (.int 6553) q) fun y => cY x y) fun d => some (.rt d) := by kernel_rfl
  rw [e, hm, hd]
  show (match bI (bnd (ixD (.scr (n :: r)) (.int (k % ((n :: r).length : Int)))) fun x => _) _ with | some (.nx _) => _ | some (.rt d) => _ | _ => _) = _
  rw [hi]
  kernel_rfl
def dr1 (c k : Int) : Int := (c % 2147483563 * 69069 + 104723 * (k + 1)) % 2147483563
def dr2 (c : Int) : Int := (c * c + c / 3) % 2147483399
def dr3 (c m : Int) : Int := (c * c + c / 7) % 2147483647 / 11 % m
theorem jf {i j : Int} (h : (-18446744073709551616 < i ∧ i < 18446744073709551616) ∨ (-18446744073709551616 < j ∧ j < 18446744073709551616)) : fI (.int i) (.int j) = some (.ok (.int (i * j))) := by
 show (if _ then _ else _) = _
 rw [if_pos h]
theorem lh {i j : Int} (h : 0 < j) : fJ (.int i) (.int j) = some (.ok (.int (i % j))) := by
 show (if _ then _ else _) = _
 rw [if_pos h]
theorem aY (ns : List Int) (hl : ns.length ≤ 63) (k m : Int) (hm : 0 < m) : ∃ d : Int, 0 ≤ d ∧ d < m ∧ ah [.scr ns, .int k, .int m] = some (.ok (.int d)) := by
 obtain ⟨c, hc⟩ := wR ns hl k
 refine ⟨dr3 (dr2 (dr1 c k)) m, Int.emod_nonneg _ (by omega), Int.emod_lt_of_pos _ hm, ?_⟩
 have b1 : 0 ≤ dr1 c k ∧ dr1 c k < 2147483563 := ⟨Int.emod_nonneg _ (by omega), Int.emod_lt_of_pos _ (by omega)⟩
 have b2 : 0 ≤ dr2 (dr1 c k) ∧ dr2 (dr1 c k) < 2147483399 := ⟨Int.emod_nonneg _ (by omega), Int.emod_lt_of_pos _ (by omega)⟩
 have b0 : 0 ≤ c % 2147483563 ∧ c % 2147483563 < 2147483563 := ⟨Int.emod_nonneg _ (by omega), Int.emod_lt_of_pos _ (by omega)⟩
 show aZ 4 cj [.scr ns, .int k, .int m] = _
 have s1 : (ag b5 2 (aa (ac 0) (aa (ac 1) ae))) [some (.scr ns), some (.int k), some (.int m), none] = some (.ok (.int c)) := by
  show (match b5 [.scr ns, .int k] with | some (.ok d) => (some (.ok d) : Option (Rs Dv)) | _ => none) = _
  rw [hc]
 have e1 : (bh 3 (f2 fJ (f2 cY (f2 fI (f2 fJ (ag b5 2 (aa (ac 0) (aa (ac 1) ae))) (fC (.int 2147483563))) (fC (.int 69069))) (f2 fI (fC (.int 104723)) (f2 cY (ac 1) (fC (.int 1))))) (fC (.int 2147483563)))) [some (.scr ns), some (.int k), some (.int m), none] = some (.nx [some (.scr ns), some (.int k), some (.int m), some (.int (dr1 c k))]) := by
  show bI (bnd (bnd (bnd (bnd ((ag b5 2 (aa (ac 0) (aa (ac 1) ae))) [some (.scr ns), some (.int k), some (.int m), none]) fun x => fJ x (.int 2147483563)) fun x => fI x (.int 69069)) fun x => bnd (fI (.int 104723) (.int (k + 1))) fun y => cY x y) fun x => fJ x (.int 2147483563)) (fun d => some (.nx [some (.scr ns), some (.int k), some (.int m), some d])) = _
  rw [s1]
  show bI (bnd (bnd (bnd (fJ (.int c) (.int 2147483563)) fun x => fI x (.int 69069)) fun x => bnd (fI (.int 104723) (.int (k + 1))) fun y => cY x y) fun x => fJ x (.int 2147483563)) _ = _
  rw [lh (by omega), jf (i := 104723) (.inl (by omega))]
  show bI (bnd (bnd (fI (.int (c % 2147483563)) (.int 69069)) fun x => cY x (.int (104723 * (k + 1)))) fun x => fJ x (.int 2147483563)) _ = _
  rw [jf (.inl (by omega))]
  show bI (fJ (.int (c % 2147483563 * 69069 + 104723 * (k + 1))) (.int 2147483563)) _ = _
  rw [lh (by omega)]
  rfl
 generalize hd1 : dr1 c k = d1 at *
 have e2 : (bh 3 (f2 fJ (f2 cY (f2 fI (ac 3) (ac 3)) (f2 fN (ac 3) (fC (.int 3)))) (fC (.int 2147483399)))) [some (.scr ns), some (.int k), some (.int m), some (.int d1)] = some (.nx [some (.scr ns), some (.int k), some (.int m), some (.int (dr2 d1))]) := by
  show bI (bnd (bnd (fI (.int d1) (.int d1)) fun x => cY x (.int (d1 / 3))) fun x => fJ x (.int 2147483399)) (fun d => some (.nx [some (.scr ns), some (.int k), some (.int m), some d])) = _
  rw [jf (.inl (by omega))]
  show bI (fJ (.int (d1 * d1 + d1 / 3)) (.int 2147483399)) _ = _
  rw [lh (by omega)]
  rfl
 generalize hd2 : dr2 d1 = d2 at *
 have e3 : (ay (f2 fJ (f2 fN (f2 fJ (f2 cY (f2 fI (ac 3) (ac 3)) (f2 fN (ac 3) (fC (.int 7)))) (fC (.int 2147483647))) (fC (.int 11))) (ac 2))) [some (.scr ns), some (.int k), some (.int m), some (.int d2)] = some (.rt (.int (dr3 d2 m))) := by
  show bI (bnd (bnd (bnd (bnd (fI (.int d2) (.int d2)) fun x => cY x (.int (d2 / 7))) fun x => fJ x (.int 2147483647)) fun x => fN x (.int 11)) fun x => fJ x (.int m)) (fun d => some (.rt d)) = _
  rw [jf (.inl (by omega))]
  show bI (bnd (bnd (fJ (.int (d2 * d2 + d2 / 7)) (.int 2147483647)) fun x => fN x (.int 11)) fun x => fJ x (.int m)) _ = _
  rw [lh (by omega)]
  show bI (fJ (.int ((d2 * d2 + d2 / 7) % 2147483647 / 11)) (.int m)) _ = _
  rw [lh hm]
  rfl
 show (match cj [some (.scr ns), some (.int k), some (.int m), none] with | some (.nx _) => _ | some (.rt d) => _ | _ => _) = _
 have e : cj [some (.scr ns), some (.int k), some (.int m), none] = some (.rt (.int (dr3 d2 m))) := by
  show sq ((bh 3 _) _) (fun ρ => sq ((bh 3 _) ρ) _) = _
  rw [e1]
  show sq ((bh 3 _) [some (.scr ns), some (.int k), some (.int m), some (.int d1)]) _ = _
  rw [e2]
  exact e3
 rw [e]
def menu : List Str := [Str.ofString "a.b", Str.ofString "b", Str.ofString "x.a.b", Str.ofString "y.x.a.b", Str.ofString "c.uk", Str.ofString "uk", Str.ofString "d.c.uk", Str.ofString "e.d.c.uk", Str.ofString "w.ck", Str.ofString "v.w.ck", Str.ofString "ck", Str.ofString "g-1.a.b", Str.ofString "7.b", Str.ofString "p.q"]
def okO (o : Option (Rs Dv)) : Option (Rs Dv) := match o with
 | some (.ok d) => some (.ok d)
 | _ => none
theorem ms (ns : List Int) (hl : ns.length ≤ 63) (k : Int) : ∃ p ∈ menu, aJ [.scr ns, .int k] = some (.ok (.str p)) := by
 obtain ⟨d, h0, h1, hd⟩ := aY ns hl k 14 (by omega)
 have e : aJ [.scr ns, .int k] = (match bI (bnd (match ah [.scr ns, .int k, .int 14] with | some (.ok d) => (some (.ok d) : Option (Rs Dv)) | _ => none) fun i => ixD (.lst (menu.map Dv.str)) i) fun d => some (.rt d) with
  | some (.nx _) => some (.ok .non)
  | some (.rt d) => some (.ok d)
  | _ => none) := by kernel_rfl
 rw [e, hd]
 have hc : d = 0 ∨ d = 1 ∨ d = 2 ∨ d = 3 ∨ d = 4 ∨ d = 5 ∨ d = 6 ∨ d = 7 ∨ d = 8 ∨ d = 9 ∨ d = 10 ∨ d = 11 ∨ d = 12 ∨ d = 13 := by omega
 rcases hc with rfl | rfl | rfl | rfl | rfl | rfl | rfl | rfl | rfl | rfl | rfl | rfl | rfl | rfl
 · exact ⟨Str.ofString "a.b", by simp [menu], by kernel_rfl⟩
 · exact ⟨Str.ofString "b", by simp [menu], by kernel_rfl⟩
 · exact ⟨Str.ofString "x.a.b", by simp [menu], by kernel_rfl⟩
 · exact ⟨Str.ofString "y.x.a.b", by simp [menu], by kernel_rfl⟩
 · exact ⟨Str.ofString "c.uk", by simp [menu], by kernel_rfl⟩
 · exact ⟨Str.ofString "uk", by simp [menu], by kernel_rfl⟩
 · exact ⟨Str.ofString "d.c.uk", by simp [menu], by kernel_rfl⟩
 · exact ⟨Str.ofString "e.d.c.uk", by simp [menu], by kernel_rfl⟩
 · exact ⟨Str.ofString "w.ck", by simp [menu], by kernel_rfl⟩
 · exact ⟨Str.ofString "v.w.ck", by simp [menu], by kernel_rfl⟩
 · exact ⟨Str.ofString "ck", by simp [menu], by kernel_rfl⟩
 · exact ⟨Str.ofString "g-1.a.b", by simp [menu], by kernel_rfl⟩
 · exact ⟨Str.ofString "7.b", by simp [menu], by kernel_rfl⟩
 · exact ⟨Str.ofString "p.q", by simp [menu], by kernel_rfl⟩
def pths : List Str := [Str.ofString "/", Str.ofString "/x", Str.ofString "/x/", Str.ofString "/x/y", Str.ofString "/xy", Str.ofString "/x/y/z.q", Str.ofString "//", Str.ofString "/-_.9", Str.ofString "/x/y/"]
theorem ri (ns : List Int) (hl : ns.length ≤ 63) (k : Int) : ∃ p ∈ pths, ce [.scr ns, .int k] = some (.ok (.str p)) := by
 obtain ⟨d, h0, h1, hd⟩ := aY ns hl k 9 (by omega)
 have e : ce [.scr ns, .int k] = (match bI (bnd (match ah [.scr ns, .int k, .int 9] with | some (.ok d) => (some (.ok d) : Option (Rs Dv)) | _ => none) fun i => ixD (.lst (pths.map Dv.str)) i) fun d => some (.rt d) with
  | some (.nx _) => some (.ok .non)
  | some (.rt d) => some (.ok d)
  | _ => none) := by kernel_rfl
 rw [e, hd]
 have hc : d = 0 ∨ d = 1 ∨ d = 2 ∨ d = 3 ∨ d = 4 ∨ d = 5 ∨ d = 6 ∨ d = 7 ∨ d = 8 := by omega
 rcases hc with rfl | rfl | rfl | rfl | rfl | rfl | rfl | rfl | rfl
 · exact ⟨Str.ofString "/", by simp [pths], by kernel_rfl⟩
 · exact ⟨Str.ofString "/x", by simp [pths], by kernel_rfl⟩
 · exact ⟨Str.ofString "/x/", by simp [pths], by kernel_rfl⟩
 · exact ⟨Str.ofString "/x/y", by simp [pths], by kernel_rfl⟩
 · exact ⟨Str.ofString "/xy", by simp [pths], by kernel_rfl⟩
 · exact ⟨Str.ofString "/x/y/z.q", by simp [pths], by kernel_rfl⟩
 · exact ⟨Str.ofString "//", by simp [pths], by kernel_rfl⟩
 · exact ⟨Str.ofString "/-_.9", by simp [pths], by kernel_rfl⟩
 · exact ⟨Str.ofString "/x/y/", by simp [pths], by kernel_rfl⟩
theorem mv (F : List Dv → Option (Rs Dv)) {f g k : FnE} {ρ : Ev} {a b c d : Dv} (h : f ρ = some (.ok a)) (h' : g ρ = some (.ok b)) (h'' : k ρ = some (.ok c)) (hF : F [a, b, c] = some (.ok d)) : ag F 3 (aa f (aa g (aa k ae))) ρ = some (.ok d) := dF (ai h (ai h' (ai h'' aC))) rfl hF
theorem rj {f : FnE} {ρ : Ev} {ds : List Dv} (h : f ρ = some (.ok (.tup ds))) : bY f ρ = some (.ok ds) := by unfold bY; rw [h]; rfl
theorem tI (ns : List Int) (hl : ns.length ≤ 63) (z : Int) : ∃ s h p O, h ∈ menu ∧ p ∈ pths ∧ (O = Dv.non ∨ ∃ o ∈ menu, O = .str o) ∧ cD [.scr ns, .int z] = some (.ok (.tup [.bl s, .str h, .str p, O])) := by
 obtain ⟨d2, a0, a1, hd2⟩ := aY ns hl (z + 2) 3 (by omega)
 obtain ⟨o, ho, hn3⟩ := ms ns hl (z + 3)
 obtain ⟨d0, b0, b1, hd0⟩ := aY ns hl z 2 (by omega)
 obtain ⟨h, hh, hn1⟩ := ms ns hl (z + 1)
 obtain ⟨p, hp, hp4⟩ := ri ns hl (z + 4)
 have hO : ∃ O, (O = Dv.non ∨ ∃ o ∈ menu, O = .str o) ∧ ixD (.lst [.non, .str o, .str o]) (.int d2) = some (.ok O) := by
  have hc : d2 = 0 ∨ d2 = 1 ∨ d2 = 2 := by omega
  rcases hc with rfl | rfl | rfl
  · exact ⟨.non, .inl rfl, rfl⟩
  · exact ⟨.str o, .inr ⟨o, ho, rfl⟩, rfl⟩
  · exact ⟨.str o, .inr ⟨o, ho, rfl⟩, rfl⟩
 obtain ⟨O, hO, hix⟩ := hO
 refine ⟨(d0 == 0), h, p, O, hh, hp, hO, dj ?_⟩
 show dq [some (.scr ns), some (.int z), none] = _
 unfold dq
 have e : f2 ixD (bq (aa (fC .non) (aa (ag aJ 2 (aa (ac 0) (aa (f2 cY (ac 1) (fC (.int 3))) ae))) (aa (ag aJ 2 (aa (ac 0) (aa (f2 cY (ac 1) (fC (.int 3))) ae))) ae)))) (ag ah 3 (aa (ac 0) (aa (f2 cY (ac 1) (fC (.int 2))) (aa (fC (.int 3)) ae)))) [some (.scr ns), some (.int z), none] = some (.ok O) := by
  rw [bZ (vM (ai rfl (ai (dG aJ rfl rfl hn3) (ai (dG aJ rfl rfl hn3) aC))) (by show 3 ≤ 100000; decide)) (mv ah rfl rfl rfl hd2)]
  exact hix
 rw [aw (ρ' := [some (.scr ns), some (.int z), some O]) (dc e rfl)]
 refine cZ (fk (ai ?_ (ai (dG aJ rfl rfl hn1) (ai (dG ce rfl rfl hp4) (ai rfl aC)))) (by show 4 ≤ 100000; decide))
 rw [bZ (mv ah rfl rfl rfl hd0) rfl]
 rfl
abbrev bo (k : Bool) : Option (Rs Dv) := some (.ok (.bl k))
def En : List Str := menu
theorem tJ {x y : Str} (h : seq x y = true) : x = y := by
 unfold seq at h
 obtain ⟨⟨a⟩⟩ := x; obtain ⟨⟨b⟩⟩ := y
 simp at h
 rw [h]
def okY : Option (Rs Dv) → Bool
 | some (.ok (.bl true)) => true
 | _ => false
theorem li {o : Option (Rs Dv)} (h : okY o = true) : o = some (.ok (.bl true)) := by
 unfold okY at h; split at h
 · rfl
 · cases h
def okB : Option (Rs Dv) → Bool
 | some (.ok (.bl _)) => true
 | _ => false
theorem Aw {o : Option (Rs Dv)} (h : okB o = true) : ∃ k, o = bo k := by
 unfold okB at h; split at h
 · exact ⟨_, rfl⟩
 · cases h
def nms : List Str := [Str.ofString "n", Str.ofString "m-1", Str.ofString "safe-a", Str.ofString "N_2"]
def wts : List Str := [Str.ofString "5", Str.ofString "", Str.ofString "a!b~"]
theorem Ax : (nms.all fun n => okY (bU [.str n])) = true := by kernel_rfl
theorem Ay : (wts.all fun n => okY (dv [.str n])) = true := by kernel_rfl
theorem Az : (En.all fun n => okY (bt [.str n])) = true := by kernel_rfl
theorem AA : (pths.all fun n => okY (c8 [.str n])) = true := by kernel_rfl
theorem Eo {n : Str} (h : n ∈ nms) : bU [.str n] = bo true := li (cQ (p := fun n => okY (bU [.str n])) Ax h)
theorem Ep {n : Str} (h : n ∈ wts) : dv [.str n] = bo true := li (cQ (p := fun n => okY (dv [.str n])) Ay h)
theorem CI {n : Str} (h : n ∈ En) : bt [.str n] = bo true := li (cQ (p := fun n => okY (bt [.str n])) Az h)
theorem DO {n : Str} (h : n ∈ pths) : c8 [.str n] = bo true := li (cQ (p := fun n => okY (c8 [.str n])) AA h)
theorem me {h : Str} (q : h ∈ menu) : h ∈ En := q
theorem nP {l : List Dv} {d : Int} (h0 : 0 ≤ d) (h1 : d < l.length) : ∃ x ∈ l, ixD (.lst l) (.int d) = some (.ok x) := by
 have h2 : d.toNat < l.length := by omega
 refine ⟨l[d.toNat], List.getElem_mem h2, ?_⟩
 show (match atD l d with | some d => _ | none => _) = _
 unfold atD
 rw [if_pos h0, List.getElem?_eq_getElem h2]
theorem AB {f : FnE} {ρ : Ev} {d : Dv} (h : f ρ = some (.ok d)) : ay f ρ = some (.rt d) := by unfold ay; rw [h]; rfl
theorem uL {a b : FnB} {ρ : Ev} {x y : Bool} (ha : a ρ = some (.ok x)) (hb : b ρ = some (.ok y)) : bOr a b ρ = some (.ok (x || y)) := by
 unfold bOr; rw [ha]; cases x
 · exact hb
 · rfl
theorem CK (i : Int) : aQ [.int i] = bo (decide (0 ≤ i) && decide (i ≤ 9999)) := by
 have e : bn [.int i, .int 0, .int 9999] = bo (decide (0 ≤ i) && decide (i ≤ 9999)) := by
  by_cases h0 : 0 ≤ i
  · simp [bn, aZ, bj, aD, sq, aR, ay, bI, bnd, bOr, bu, fB, toB, ac, f1, f2, cT, cB, aI, bJ, leX, h0]
  · simp [bn, aZ, bj, aD, sq, aR, ay, bI, bnd, bOr, bu, fB, toB, ac, f1, f2, cT, cB, aI, bJ, leX, h0]
 simp [aQ, aZ, dL, ay, bI, bnd, ag, aa, ae, ac, fC, e]
theorem oB {i : Int} (h0 : 0 ≤ i) (h1 : i ≤ 9999) : aQ [.int i] = bo true := by
 rw [CK]; simp [h0, h1]
def Mo (u : Dv) : Prop := u = .non ∨ ∃ i : Int, 0 ≤ i ∧ i ≤ 9999 ∧ u = .int i
theorem AC {u : Dv} (h : Mo u) : aK [u] = bo true := by
 rcases h with rfl | ⟨i, h0, h1, rfl⟩
 · simp [aK, aZ, aX, ay, bI, bnd, toB, ac, fC, f2, vOr, isN]
 · simp [aK, aZ, aX, ay, bI, bnd, toB, ag, aa, ae, ac, fC, f2, vOr, isN, oB h0 h1]
theorem wS {R : Str} (h : R = Str.ofString "any" ∨ R = Str.ofString "near") : gE [.str R] = bo true ∧ ∃ r, eqX (.str R) (.str "any") = bo r ∧ eqX (.str R) (.str "near") = bo (!r) := by
 rcases h with rfl | rfl
 · exact ⟨by kernel_rfl, true, by kernel_rfl, by kernel_rfl⟩
 · exact ⟨by kernel_rfl, false, by kernel_rfl, by kernel_rfl⟩
structure bA where
 nm : Str
 w : Str
 house : Str
 ex : Bool
 path : Str
 ends : Option Int
 S : Bool
 R : Str
 md : Int
 us : Int
deriving DecidableEq
def eO : Option Int → Dv
 | none => .non
 | some i => .int i
def enc (n : bA) : Dv := .tup [.str n.nm, .str n.w, .str n.house, .bl n.ex, .str n.path, eO n.ends, .bl n.S, .str n.R, .int n.md, .int n.us]
def ek (n : bA) : Dv := .tup [.str n.nm, .str n.house, .str n.path]
def key (n : bA) : List Str := [n.nm, n.house, n.path]
structure Good (n : bA) : Prop where
 nm : n.nm ∈ nms
 w : n.w ∈ wts
 house : n.house ∈ En
 path : n.path ∈ pths
 R : n.R = Str.ofString "any" ∨ n.R = Str.ofString "near"
 ends : ∀ i, n.ends = some i → 0 ≤ i ∧ i ≤ 59
 mk0 : 0 ≤ n.md
 mu : n.md ≤ n.us
 us : n.us ≤ 39
theorem CL {n : bA} (g : Good n) : Mo (eO n.ends) := by
 cases h : n.ends with
 | none => exact .inl rfl
 | some i => exact .inr ⟨i, (g.ends i h).1, by have := (g.ends i h).2; omega, rfl⟩
theorem uM {n : bA} (g : Good n) : bE [enc n] = bo true := by
 have e0 : bM [enc n, .int 10] = bo true := by kernel_rfl
 have e1 := oB g.mk0 (by have := g.mu; have := g.us; omega)
 have e2 := oB (Int.le_trans g.mk0 g.mu) (by have := g.us; omega)
 have e3 : aK [eO n.ends] = bo true := AC (CL g)
 unfold enc at e0 ⊢
 simp [bE, aZ, gh, aD, sq, aR, ay, bI, bnd, bOr, bu, fB, toB, ag, aa, ae, ac, fC, f1, f2, ixD, atD, bq, fB1, cB, aI, e0, e1, e2, Eo g.nm, Ep g.w, CI g.house, DO g.path, e3, (wS g.R).1, iT, ii, leX, g.mu]
def signs0 : List Str := nms ++ (wts ++ (En ++ (pths ++ [Str.ofString "any", Str.ofString "near"])))
theorem wT : (signs0.all fun x => PyData.canLay0 (.str x)) = true := by kernel_rfl
theorem jS {x : Str} (h : x ∈ signs0) : PyData.canLay0 (.str x) = true := cQ (p := fun x => PyData.canLay0 (.str x)) wT h
theorem CM (o : Option Int) : It1 0 (eO o) := by cases o; exact At; exact nO
theorem Good.sR {n : bA} (g : Good n) : n.R ∈ signs0 := by
 unfold signs0
 rcases g.R with h | h <;> rw [h] <;> simp
theorem AD {n : bA} (g : Good n) : It1 1 (enc n) := by
 refine nN (k := 0) fun d hd => ?_
 simp only [List.mem_cons, List.not_mem_nil, or_false] at hd
 rcases hd with rfl | rfl | rfl | rfl | rfl | rfl | rfl | rfl | rfl | rfl
 · exact gi (jS (by simp [signs0, g.nm]))
 · exact gi (jS (by simp [signs0, g.w]))
 · exact gi (jS (by simp [signs0, g.house]))
 · exact As
 · exact gi (jS (by simp [signs0, g.path]))
 · exact CM _
 · exact As
 · exact gi (jS g.sR)
 · exact nO
 · exact nO
theorem tK {n : bA} (g : Good n) : It1 1 (ek n) := by
 refine nN (k := 0) fun d hd => ?_
 simp only [List.mem_cons, List.not_mem_nil, or_false] at hd
 rcases hd with rfl | rfl | rfl
 · exact gi (jS (by simp [signs0, g.nm]))
 · exact gi (jS (by simp [signs0, g.house]))
 · exact gi (jS (by simp [signs0, g.path]))
theorem AE (a b : bA) : PyData.eqv (dE (ek a)) (dE (ek b)) = decide (key a = key b) := by
 rw [Bool.eq_iff_iff]
 simp [ek, key, dE, toPys, PyData.eqv, PyData.eqvAll]
theorem CN {a b : bA} (ga : Good a) (gb : Good b) : eqX (ek a) (ek b) = bo (decide (key a = key b)) ∧ neX (ek a) (ek b) = bo (!decide (key a = key b)) := by
 have h1 := (tK ga).okP (by omega)
 have h2 := (tK gb).okP (by omega)
 have h3 := AE a b
 have h0 : eqS (ek a) (ek b) = none := rfl
 constructor
 · unfold eqX; rw [h0, h1, h2, h3]; rfl
 · unfold neX; rw [h0, h1, h2, h3]; rfl
def dO (n : bA) (now : Int) : Bool := match n.ends with
 | none => false
 | some i => decide (i ≤ now)
def ej (js : List bA) : Dv := .tup (js.map enc)
structure Jar (js : List bA) : Prop where
 g : ∀ n ∈ js, Good n
 s : ∀ i (h : i + 1 < js.length), js[i].md ≤ js[i + 1].md
 k : (js.map key).Nodup
 l : js.length ≤ 18
theorem iI {α β : Type} {o : Option (Rs α)} {a : α} {k : α → Option (Rs β)} (h : o = some (.ok a)) : bnd o k = k a := by rw [h]; rfl
theorem gJ : ∀ (n : Nat) (lo : Int), rng lo n = (List.range n).map fun i : Nat => Dv.int (lo + (i : Int))
 | 0, lo => rfl
 | n + 1, lo => by
  rw [List.range_succ_eq_map]
  show Dv.int lo :: rng (lo + 1) n = _
  rw [gJ n (lo + 1)]
  simp only [List.map_cons, List.map_map]
  congr 1
  · simp
  · congr 1
    funext i
    simp only [Function.comp]
    congr 1
    omega
theorem mw {f g : gX} {ρ ρ' : Ev} {ds ds' : List Dv} (h : f ρ ds = some (.nx ρ' ds')) : eU f g ρ ds = g ρ' ds' := by unfold eU; rw [h]
theorem mx {xs : List Dv} {i : Nat} {ρ : Ev} (h : ρ[i]? = some (some (.lst xs))) : bY (ac i) ρ = some (.ok xs) := by
 unfold bY ac
 rw [h]
 rfl
theorem eZ {js : List bA} {i : Nat} {ρ : Ev} (h : ρ[i]? = some (some (ej js))) : bY (ac i) ρ = some (.ok (js.map enc)) := by
 unfold bY ac
 rw [h]
 rfl
theorem rm {xs : List bA} (hg : ∀ o ∈ xs, Good o) : It1 2 (.lst (xs.map enc)) := lg fun d hd => by
 obtain ⟨x, hx, rfl⟩ := List.mem_map.mp hd
 exact AD (hg x hx)
theorem nil_eq {xs : List bA} (hg : ∀ o ∈ xs, Good o) : eqX (.lst (xs.map enc)) (.lst []) = bo xs.isEmpty := by
 cases xs with
 | nil => kernel_rfl
 | cons o rest =>
  have i2 := (rm hg).okP (by omega)
  have i3 : okP (.lst []) = true := by kernel_rfl
  unfold eqX
  rw [show eqS (.lst ((o :: rest).map enc)) (.lst []) = none from rfl, i2, i3]
  simp [dE, toPys, PyData.eqv, PyData.eqvAll]
theorem lj : ∀ l : List Int, imms (l.map Dv.int) = true
 | [] => rfl
 | i :: l => by show (imm (.int i) && imms (l.map Dv.int)) = true; rw [lj l]; rfl
theorem my (a b : Int) : cC (.int a) (.int b) = some (.ok (.int (a + b))) := rfl
structure JI (B : Nat) (js : List bA) (now : Int) : Prop where
 g : ∀ n ∈ js, Good n
 s : js.Pairwise fun a b => a.md ≤ b.md
 k : (js.map key).Nodup
 l : js.length ≤ B
 n0 : 0 ≤ now
 n1 : now ≤ 3 * B
 m : ∀ n ∈ js, n.md ≤ now
theorem JI.keep {B : Nat} {js : List bA} {now d : Int} (J : JI B js now) (h0 : 0 ≤ d) (h1 : d < 4) : JI (B + 1) js (now + d) :=
 ⟨J.g, J.s, J.k, by have := J.l; omega, by have := J.n0; omega, by have := J.n1; omega, fun n hn => by have := J.m n hn; omega⟩
theorem JI.add {B : Nat} {js : List bA} {now d : Int} {n : bA} (J : JI B js now) (h0 : 0 ≤ d) (h1 : d < 4) (g : Good n) (hm : n.md = now + d) (hf : js.filter (fun o => decide (key o = key n)) = []) : JI (B + 1) (js ++ [n]) (now + d) := by
 have hk : ∀ o ∈ js, key o ≠ key n := fun o ho e => by
  have : o ∈ js.filter (fun o => decide (key o = key n)) := List.mem_filter.mpr ⟨ho, by simp [e]⟩
  rw [hf] at this; cases this
 refine ⟨fun x hx => ?_, ?_, ?_, by have := J.l; simp; omega, by have := J.n0; omega, by have := J.n1; omega, fun x hx => ?_⟩
 · rcases List.mem_append.mp hx with h | h
   · exact J.g x h
   · rw [List.mem_singleton.mp h]; exact g
 · refine List.pairwise_append.mpr ⟨J.s, List.pairwise_singleton .., fun a ha b hb => ?_⟩
   rw [List.mem_singleton.mp hb, hm]
   have := J.m a ha
   omega
 · rw [List.map_append]
   refine List.nodup_append.mpr ⟨J.k, by simp, fun a ha b hb e => ?_⟩
   obtain ⟨o, ho, rfl⟩ := List.mem_map.mp ha
   simp only [List.map_cons, List.map_nil, List.mem_singleton] at hb
   exact hk o ho (e.trans hb)
 · rcases List.mem_append.mp hx with h | h
   · have := J.m x h; omega
   · rw [List.mem_singleton.mp h, hm]; omega
theorem JI.jar {B : Nat} {js : List bA} {now : Int} (J : JI B js now) (hB : B ≤ 18) : Jar js :=
 ⟨J.g, fun i h => List.pairwise_iff_getElem.mp J.s i (i + 1) (by omega) h (by omega), J.k, by have := J.l; omega⟩
def jb (ns : List Int) (z m now : Int) : Ev := [some (.scr ns), some (.int z), some (.int m), none, some (.int now), none, none, none, none, none, none, none, none, none, none, none]
def cJ : FnB := (fB (f2 eqX (bg [("_law_note", 15)] (bY (ac 3)) (some (fB (f2 eqX (aT (aa (f2 ixD (ac 0) (fC (.int 0))) (aa (f2 ixD (ac 0) (fC (.int 2))) (aa (f2 ixD (ac 0) (fC (.int 4))) ae)))) (aT (aa (f2 ixD (ac 1) (fC (.int 0))) (aa (f2 ixD (ac 1) (fC (.int 2))) (aa (f2 ixD (ac 1) (fC (.int 4))) ae))))))) (ac 0)) (bq ae)))
theorem CO {js : List bA} {n : bA} {ρ : Ev} (hg : ∀ o ∈ js, Good o) (gn : Good n) (hl : js.length ≤ 18) (h3 : ρ[3]? = some (some (.lst (js.map enc)))) (h15 : ρ[15]? = some (some (enc n))) : cJ ρ = some (.ok (js.filter (fun o => decide (key o = key n))).isEmpty) := by
 have hc : uh [("_law_note", 15)] ρ = [none, some (enc n)] := by simp [uh, h15]
 have e1 := eE (cs := [("_law_note", 15)]) (src := bY (ac 3)) (tst := (fB (f2 eqX (aT (aa (f2 ixD (ac 0) (fC (.int 0))) (aa (f2 ixD (ac 0) (fC (.int 2))) (aa (f2 ixD (ac 0) (fC (.int 4))) ae)))) (aT (aa (f2 ixD (ac 1) (fC (.int 0))) (aa (f2 ixD (ac 1) (fC (.int 2))) (aa (f2 ixD (ac 1) (fC (.int 4))) ae))))))) (elt := ac 0) (ρ := ρ) enc (fun o => decide (key o = key n)) enc (mx h3) (by omega) fun o ho => ⟨by
  rw [hc]
  exact bS ((bZ (x := ek o) (y := ek n) rfl rfl).trans (CN (hg o ho) gn).1), by rw [hc]; rfl⟩
 exact bS ((bZ e1 rfl).trans (nil_eq fun o ho => hg o (List.mem_filter.mp ho).1))
theorem rn (ns : List Int) (hl : ns.length ≤ 63) (z m now k : Int) {B : Nat} {js : List bA} (J : JI B js now) (hB : B ≤ 10) :
 ∃ ρ' js' now', aW ((jb ns z m now).set 5 (some (.int k))) (js.map enc) = some (.nx ρ' (js'.map enc)) ∧ fgt [5, 6, 7, 8, 9, 10, 11, 12, 13, 14, 15] ρ' = jb ns z m now' ∧ JI (B + 1) js' now' := by
 obtain ⟨here, hh⟩ : ∃ here, here = z + 1 + 14 * k := ⟨_, rfl⟩
 obtain ⟨d0, a0, b0, e0⟩ := aY ns hl here 4 (by omega)
 obtain ⟨d1, a1, b1, e1⟩ := aY ns hl (here + 1) 4 (by omega)
 obtain ⟨d2, a2, b2, e2⟩ := aY ns hl (here + 2) 3 (by omega)
 obtain ⟨d4, a4, b4, e4⟩ := aY ns hl (here + 4) 2 (by omega)
 obtain ⟨d6, a6, b6, e6⟩ := aY ns hl (here + 6) 2 (by omega)
 obtain ⟨d7, a7, b7, e7⟩ := aY ns hl (here + 7) 60 (by omega)
 obtain ⟨d8, a8, b8, e8⟩ := aY ns hl (here + 8) 2 (by omega)
 obtain ⟨d9, a9, b9, e9⟩ := aY ns hl (here + 9) 3 (by omega)
 obtain ⟨d10, a10, b10, e10⟩ := aY ns hl (here + 10) 5 (by omega)
 obtain ⟨n3, hn3, e3⟩ := ms ns hl (here + 3)
 obtain ⟨p5, hp5, e5⟩ := ri ns hl (here + 5)
 obtain ⟨x1, m1, i1⟩ := nP (l := [.str "n", .str "m-1", .str "safe-a", .str "N_2"]) a1 b1
 obtain ⟨x2, m2, i2⟩ := nP (l := [.str "5", .str "", .str "a!b~"]) a2 b2
 obtain ⟨x6, m6, i6⟩ := nP (l := [.non, .int d7]) a6 b6
 obtain ⟨x9, m9, i9⟩ := nP (l := [.str "any", .str "any", .str "near"]) a9 b9
 have g1 : ∃ nm ∈ nms, x1 = .str nm := by
  simp only [List.mem_cons, List.not_mem_nil, or_false] at m1
  rcases m1 with rfl | rfl | rfl | rfl <;> exact ⟨_, by simp [nms], rfl⟩
 have g2 : ∃ nm ∈ wts, x2 = .str nm := by
  simp only [List.mem_cons, List.not_mem_nil, or_false] at m2
  rcases m2 with rfl | rfl | rfl <;> exact ⟨_, by simp [wts], rfl⟩
 have g6 : ∃ o : Option Int, (∀ i, o = some i → 0 ≤ i ∧ i ≤ 59) ∧ x6 = eO o := by
  simp only [List.mem_cons, List.not_mem_nil, or_false] at m6
  rcases m6 with rfl | rfl
  · exact ⟨none, by simp, rfl⟩
  · exact ⟨some d7, fun i hi => by cases hi; omega, rfl⟩
 have g9 : ∃ R, (R = Str.ofString "any" ∨ R = Str.ofString "near") ∧ x9 = .str R := by
  simp only [List.mem_cons, List.not_mem_nil, or_false] at m9
  rcases m9 with rfl | rfl | rfl
  · exact ⟨_, .inl rfl, rfl⟩
  · exact ⟨_, .inl rfl, rfl⟩
  · exact ⟨_, .inr rfl, rfl⟩
 obtain ⟨nm, hnm, rfl⟩ := g1
 obtain ⟨w, hw, rfl⟩ := g2
 obtain ⟨o, ho, rfl⟩ := g6
 obtain ⟨R, hR, rfl⟩ := g9
 let n : bA := ⟨nm, w, n3, d4 == 0, p5, o, d8 == 0, R, now + d0, now + d0 + d10⟩
 have q0 := J.n0
 have q1 := J.n1
 have gn : Good n := ⟨hnm, hw, me hn3, hp5, hR, ho, by show 0 ≤ now + d0; omega, by show now + d0 ≤ now + d0 + d10; omega, by show now + d0 + d10 ≤ 39; omega⟩
 let E15 : Ev := [some (.scr ns), some (.int z), some (.int m), none, some (.int (now + d0)), some (.int k), some (.int here), some (.str nm), some (.str w), some (eO o), some (.bl (d4 == 0)), some (.tup [.str nm, .str w, .str n3, .bl (d4 == 0), .str p5]), some (.str R), some (.bl (d8 == 0)), some (.int (now + d0 + d10)), some (enc n)]
 have hc := CO (ρ := E15.set 3 (some (.lst (js.map enc)))) J.g gn (by have := J.l; omega) rfl rfl
 have hmul : fI (.int 14) (.int k) = some (.ok (.int (14 * k))) := jf (.inl (by omega))
 have hrun : aW ((jb ns z m now).set 5 (some (.int k))) (js.map enc) = vR 3 cJ (ux (ac 15)) Bb E15 (js.map enc) := by
  have eB : aW = (eU (fP 6 (f2 cC (f2 cC (ac 1) (fC (.int 1))) (f2 fI (fC (.int 14)) (ac 5)))) (eU (fP 4 (f2 cC (ac 4) (ag ah 3 (aa (ac 0) (aa (ac 6) (aa (fC (.int 4)) ae)))))) (eU (fP 7 (f2 ixD (bq (aa (fC (.str "n")) (aa (fC (.str "m-1")) (aa (fC (.str "safe-a")) (aa (fC (.str "N_2")) ae))))) (ag ah 3 (aa (ac 0) (aa (f2 cC (ac 6) (fC (.int 1))) (aa (fC (.int 4)) ae)))))) (eU (fP 8 (f2 ixD (bq (aa (fC (.str "5")) (aa (fC (.str "")) (aa (fC (.str "a!b~")) ae)))) (ag ah 3 (aa (ac 0) (aa (f2 cC (ac 6) (fC (.int 2))) (aa (fC (.int 3)) ae)))))) (eU (fP 9 (f2 ixD (bq (aa (fC .non) (aa (ag ah 3 (aa (ac 0) (aa (f2 cC (ac 6) (fC (.int 7))) (aa (fC (.int 60)) ae)))) ae))) (ag ah 3 (aa (ac 0) (aa (f2 cC (ac 6) (fC (.int 6))) (aa (fC (.int 2)) ae)))))) (eU (fP 10 (f2 eqX (ag ah 3 (aa (ac 0) (aa (f2 cC (ac 6) (fC (.int 4))) (aa (fC (.int 2)) ae)))) (fC (.int 0)))) (eU (fP 11 (aT (aa (ac 7) (aa (ac 8) (aa (ag aJ 2 (aa (ac 0) (aa (f2 cC (ac 6) (fC (.int 3))) ae))) (aa (ac 10) (aa (ag ce 2 (aa (ac 0) (aa (f2 cC (ac 6) (fC (.int 5))) ae))) ae))))))) (eU (fP 12 (f2 ixD (bq (aa (fC (.str "any")) (aa (fC (.str "any")) (aa (fC (.str "near")) ae)))) (ag ah 3 (aa (ac 0) (aa (f2 cC (ac 6) (fC (.int 9))) (aa (fC (.int 3)) ae)))))) (eU (fP 13 (f2 eqX (ag ah 3 (aa (ac 0) (aa (f2 cC (ac 6) (fC (.int 8))) (aa (fC (.int 2)) ae)))) (fC (.int 0)))) (eU (fP 14 (f2 cC (ac 4) (ag ah 3 (aa (ac 0) (aa (f2 cC (ac 6) (fC (.int 10))) (aa (fC (.int 5)) ae)))))) (eU (fP 15 (f2 cC (ac 11) (aT (aa (ac 9) (aa (ac 13) (aa (ac 12) (aa (ac 4) (aa (ac 14) ae)))))))) (vR 3 cJ (ux (ac 15)) Bb)))))))))))) := rfl
  rw [eB]
  subst hh
  simp [jb, eU, fP, xx, bnd, ag, aa, ae, ac, fC, f2, aT, bq, my, hmul, e0, e1, e2, e3, e4, e5, e6, e7, e8, e9, e10, i1, i2, i6, i9, eqX, eqS, E15, enc, n]
  simp [cC]
 rw [hrun]
 cases hf : (js.filter (fun o => decide (key o = key n))) with
 | nil =>
  rw [hf] at hc
  refine ⟨E15, js ++ [n], now + d0, ?_, rfl, J.add a0 b0 gn rfl hf⟩
  unfold vR
  rw [hc]
  show (if (js.map enc).length < 100000 then _ else _) = _
  rw [if_pos (by have := J.l; simp; omega)]
  show some (Fo.nx _ (js.map enc ++ [enc n])) = _
  simp
 | cons c r =>
  rw [hf] at hc
  refine ⟨E15, js, now + d0, ?_, rfl, J.keep a0 b0⟩
  unfold vR
  rw [hc]
  rfl
theorem nQ (ns : List Int) (hl : ns.length ≤ 63) (z m : Int) : ∀ (ks : List Int) (ρ : Ev) (now : Int) (B : Nat) (js : List bA), B + ks.length ≤ 10 → fgt [5, 6, 7, 8, 9, 10, 11, 12, 13, 14, 15] ρ = jb ns z m now → JI B js now →
 ∃ js' now', il 5 [5, 6, 7, 8, 9, 10, 11, 12, 13, 14, 15] aW (ks.map Dv.int) ρ (js.map enc) = some (.nx (jb ns z m now') (js'.map enc)) ∧ JI (B + ks.length) js' now'
 | [], ρ, now, B, js, _, hρ, J => ⟨js, now, by show some (Fo.nx _ _) = _; rw [hρ], J⟩
 | k :: ks, ρ, now, B, js, hb, hρ, J => by
  simp only [List.length_cons] at hb
  obtain ⟨ρ', js', now', e, hρ', J'⟩ := rn ns hl z m now k J (by omega)
  obtain ⟨js2, now2, e2, J2⟩ := nQ ns hl z m ks ρ' now' (B + 1) js' (by omega) hρ' J'
  refine ⟨js2, now2, ?_, by rw [List.length_cons, show B + (ks.length + 1) = B + 1 + ks.length by omega]; exact J2⟩
  show (match aW ((fgt _ ρ).set 5 (some (.int k))) (js.map enc) with
   | some (.nx ρ' xs') => il 5 _ aW (ks.map Dv.int) ρ' xs'
   | o => o) = _
  rw [hρ, e]
  exact e2
theorem AF (ns : List Int) (hl : ns.length ≤ 63) (z : Int) (m : Nat) (hm : m ≤ 8) : ∃ js now, eM [.scr ns, .int z, .int m] = some (.ok (ej js)) ∧ Jar js ∧ js.length ≤ m ∧ JI m js now := by
 obtain ⟨d, a0, b0, e0⟩ := aY ns hl z (m + 1) (by omega)
 obtain ⟨c, rfl⟩ : ∃ c : Nat, d = (c : Int) := ⟨d.toNat, by omega⟩
 have hr : iL [.int (c : Int)] = some (.ok (((List.range c).map fun i : Nat => (i : Int)).map Dv.int)) := by
  rw [nK (by omega), gJ]
  simp
 obtain ⟨js, now, e, J⟩ := nQ ns hl z m ((List.range c).map fun i : Nat => (i : Int)) (jb ns z m 0) 0 0 [] (by simp; omega) rfl ⟨by simp, List.Pairwise.nil, by simp, by simp, by omega, by omega, by simp⟩
 have hlen : ((List.range c).map fun i : Nat => (i : Int)).length = c := by simp
 rw [hlen] at J
 have J5 := J.l
 refine ⟨js, now, ?_, J.jar (by omega), by omega, ⟨J.g, J.s, J.k, by omega, J.n0, by have := J.n1; omega, J.m⟩⟩
 refine dj (d := ej js) ?_
 show vU 3 ae _ [some (.scr ns), some (.int z), some (.int m), none, none, none, none, none, none, none, none, none, none, none, none, none] = _
 have hsrc : (fun ρ => bnd ((aa (ag ah 3 (aa (ac 0) (aa (ac 1) (aa (f2 cC (ac 2) (fC (.int 1))) ae)))) ae) ρ) iL) (jb ns z m 0) = some (.ok (((List.range c).map fun i : Nat => (i : Int)).map Dv.int)) := by
  have h : (aa (ag ah 3 (aa (ac 0) (aa (ac 1) (aa (f2 cC (ac 2) (fC (.int 1))) ae)))) ae) (jb ns z m 0) = some (.ok [.int (c : Int)]) := by
   simp [bnd, aa, ae, ag, fC, ac, f2, jb, my, e0]
  exact (iI (k := iL) h).trans hr
 have hfor : pX 5 [5, 6, 7, 8, 9, 10, 11, 12, 13, 14, 15] (fun ρ => bnd ((aa (ag ah 3 (aa (ac 0) (aa (ac 1) (aa (f2 cC (ac 2) (fC (.int 1))) ae)))) ae) ρ) iL) aW (jb ns z m 0) [] = some (.nx (jb ns z m now) (js.map enc)) := by
  unfold pX
  rw [hsrc]
  show (if imms (((List.range c).map fun i : Nat => (i : Int)).map Dv.int) = true then _ else none) = _
  rw [if_pos (lj _)]
  exact e
 have hle : js.length ≤ 100000 := by omega
 have hret : xz 3 (fB1 ij (aa (ac 3) ae)) (jb ns z m now) (js.map enc) = some (.rt (ej js)) := by
  unfold xz
  rw [dP (ai (x := .lst (js.map enc)) rfl aC)]
  rfl
 have hbody : (eU (fP 4 (fC (.int 0))) (eU (pX 5 [5, 6, 7, 8, 9, 10, 11, 12, 13, 14, 15] (fun ρ => bnd ((aa (ag ah 3 (aa (ac 0) (aa (ac 1) (aa (f2 cC (ac 2) (fC (.int 1))) ae)))) ae) ρ) iL) aW) (xz 3 (fB1 ij (aa (ac 3) ae))))) [some (.scr ns), some (.int z), some (.int m), none, none, none, none, none, none, none, none, none, none, none, none, none] [] = some (.rt (ej js)) := by
  rw [mw (show fP 4 (fC (.int 0)) [some (.scr ns), some (.int z), some (.int m), none, none, none, none, none, none, none, none, none, none, none, none, none] [] = some (.nx (jb ns z m 0) []) from rfl)]
  rw [mw hfor]
  exact hret
 unfold vU
 show (if ([] : List Dv).length ≤ 100000 then _ else none) = _
 rw [if_pos (by simp)]
 exact (congrArg (fun o => match o with | some (Fo.nx ρ' ds') => some (Fl.nx (List.set ρ' 3 (some (Dv.lst ds')))) | some (Fo.rt d) => some (Fl.rt d) | none => none) hbody).trans rfl
theorem ro (n : bA) : iE [enc n] = some (.ok (ek n)) := by simp [iE, aZ, tz, aD, sq, aR, ay, a5, bh, bI, bnd, bOr, cX, bu, fB, toB, ag, aA, aa, ae, ac, fC, f1, f2, ixD, atD, vOr, cT, eR, fIf, aT, bq, fB1, fM, aL, isN, dC, cB, aI, br, bB, bJ, enc, ek]
theorem ll : ∀ js : List bA, keysOf (js.map ek) = some (js.map key)
 | [] => rfl
 | n :: js => by
  show (match cU [.str n.nm, .str n.house, .str n.path], keysOf (js.map ek) with | some k, some ks => some (k :: ks) | _, _ => none) = _
  rw [ll js]
  rfl
theorem tL {js : List bA} (J : Jar js) : bd [ej js] = bo true := by
 have e1 : aU 1 [] (bY (ac 0)) (gN 0) none (ag iE 1 (aa (ac 0) ae)) [some (ej js), none] = some (.ok (.lst (js.map ek))) :=
  lc enc ek (eZ rfl) (by have := J.l; omega) fun n hn => dS iE rfl (ro n)
 have e2 : im [.lst (js.map ek)] = some (.ok (.int js.length)) := by
  show (match keysOf (js.map ek) with | some ks => if ks.Nodup ∧ ks.length ≤ 18 then (some (.ok (.int ks.length)) : Option (Rs Dv)) else none | none => none) = _
  rw [ll]
  dsimp only
  rw [if_pos ⟨J.k, by simpa using J.l⟩]
  simp
 simp only [bd, aZ, bz]
 simp [aD, sq, bh, bI, bnd, e1]
 simp [ay, f2, fB1, aa, ae, ac, bnd, bI, e2, eI, eqX, eqS]
theorem all_map {α : Type} (p : α → Bool) (l : List α) : iT [.lst (l.map fun a => Dv.bl (p a))] = bo (l.all p) := by
 unfold iT
 dsimp only
 rw [lf p l]
 dsimp only
 rw [List.all_map]
 rfl
theorem jT {α : Type} (l : List α) : iT [.lst (l.map fun _ => Dv.bl true)] = bo true := by
 rw [all_map (fun _ => true) l]
 simp
theorem AG {js : List bA} {i : Nat} (h : i < js.length) : ixD (ej js) (.int i) = some (.ok (enc js[i])) := by
 show (match atD (js.map enc) (i : Int) with | some d => _ | none => _) = _
 unfold atD
 rw [if_pos (by omega)]
 simp [h]
theorem AH (n : bA) : ixD (enc n) (.int 8) = some (.ok (.int n.md)) := rfl
theorem AI (js : List bA) (hl : js.length ≤ 18) : (fun ρ => bnd ((aa (fC (.int 1)) (aa (fB1 eI (aa (ac 0) ae)) ae)) ρ) rK) [some (ej js)] = some (.ok ((List.range (js.length - 1)).map fun i : Nat => Dv.int (1 + (i : Int)))) := by
 have h : (aa (fC (.int 1)) (aa (fB1 eI (aa (ac 0) ae)) ae)) [some (ej js)] = some (.ok [.int 1, .int js.length]) := by
  simp [bnd, aa, ae, fB1, fC, ac, ej, eI]
 refine (iI (k := rK) h).trans ?_
 rw [Ar (by omega), gJ, show ((js.length : Int) - 1).toNat = js.length - 1 by omega]
def DP : FnE := (f2 leX (f2 ixD (f2 ixD (ac 1) (f2 vn (ac 0) (fC (.int 1)))) (fC (.int 8))) (f2 ixD (f2 ixD (ac 1) (ac 0)) (fC (.int 8))))
theorem wU {js : List bA} (J : Jar js) {i : Nat} (hi' : i + 1 < js.length) : DP [some (.int (1 + (i : Int))), some (ej js)] = some (.ok (.bl true)) := by
 have hs := J.s i hi'
 have h1 : f2 ixD (ac 1) (f2 vn (ac 0) (fC (.int 1))) [some (.int (1 + (i : Int))), some (ej js)] = some (.ok (enc js[i])) := by
  have q := AG (js := js) (i := i) (by omega)
  rw [show (i : Int) = 1 + (i : Int) - 1 by omega] at q
  exact q
 have h2 : f2 ixD (ac 1) (ac 0) [some (.int (1 + (i : Int))), some (ej js)] = some (.ok (enc js[i + 1])) := by
  have q := AG (js := js) (i := i + 1) hi'
  rw [show ((i + 1 : Nat) : Int) = 1 + (i : Int) by omega] at q
  exact q
 have h3 : leX (.int js[i].md) (.int js[i + 1].md) = some (.ok (.bl true)) := by simp [leX, hs]
 exact (bZ ((bZ h1 rfl).trans (AH _)) ((bZ h2 rfl).trans (AH _))).trans h3
theorem CP {js : List bA} (J : Jar js) : bg [("notes", 0)] (fun ρ => bnd ((aa (fC (.int 1)) (aa (fB1 eI (aa (ac 0) ae)) ae)) ρ) rK) none DP [some (ej js)] = some (.ok (.lst ((List.range (js.length - 1)).map fun _ => Dv.bl true))) :=
 cA (fun i : Nat => Dv.int (1 + (i : Int))) (fun _ => Dv.bl true) (AI js J.l) (by have := J.l; rw [List.length_range]; omega) fun i hi => wU J (by have := List.mem_range.mp hi; omega)
theorem wV {js : List bA} (J : Jar js) : db [ej js] = bo true :=
 dj (d := .bl true) (cZ ((dP (ai (CP J) aC)).trans (jT _)))
theorem t_a {js : List bA} (J : Jar js) : bg [] (bY (ac 0)) none (ag bE 1 (aa (ac 0) ae)) [some (ej js)] = some (.ok (.lst (js.map fun _ => Dv.bl true))) :=
 cA enc (fun _ => Dv.bl true) (eZ rfl) (by have := J.l; omega) fun n hn => dS bE rfl (uM (J.g n hn))
theorem t_b {js : List bA} (J : Jar js) : (bOr (bu (fB (f1 (cB br) (ac 0)))) (fB (f2 gtD (fB1 eI (aa (ac 0) ae)) (fC (.int 20))))) [some (ej js)] = some (.ok false) := by
 have e3 : ¬ (20 < (js.length : Int)) := by have := J.l; omega
 simp [aD, sq, bOr, bu, fB, f1, f2, cB, br, ac, bnd, toB, fB1, aa, ae, fC, ej, eI, BP, e3]
theorem t_c {js : List bA} (J : Jar js) : fB1 iT (aa (bg [] (bY (ac 0)) none (ag bE 1 (aa (ac 0) ae))) ae) [some (ej js)] = bo true := (dP (ai (t_a J) aC)).trans (jT js)
theorem t_d {js : List bA} (J : Jar js) : dM [some (ej js)] = some (.rt (.bl true)) := by
 unfold dM
 rw [aw (ba (t_b J))]
 rw [aw (ba (c0 (k := true) (bS (t_c J))))]
 refine cZ ?_
 rw [y9 (dS db rfl (wV J))]
 exact dS bd rfl (tL J)
theorem rq {js : List bA} (J : Jar js) : dN [ej js] = bo true := dj (d := .bl true) (t_d J)
def rules : List Dv := [.str "!w.ck", .str "*.ck", .str "*.uk", .str "a.b", .str "b", .str "c.uk", .str "q", .str "uk"]
def fK : List Dv → List (List Dv)
 | [] => [[]]
 | x :: r => (fK r).map (x :: ·) ++ fK r
def wW : FnB := fB (f2 eqX (ag ah 3 (aa (ac 2) (aa (f2 cY (ac 3) (ac 0)) (aa (fC (.int 2)) ae)))) (fC (.int 0)))
theorem uN (ns : List Int) (hl : ns.length ≤ 63) (z : Int) : ∀ (l : List Dv) (k : Nat), ∃ t ∈ fK l, fj (gP 0 1) (some wW) (ac 1) [none, none, some (.scr ns), some (.int z)] (eS k l) = some t
 | [], k => ⟨[], by simp [fK], rfl⟩
 | x :: r, k => by
  obtain ⟨t, ht, e⟩ := uN ns hl z r (k + 1)
  obtain ⟨d, h0, h1, hd⟩ := aY ns hl (z + k) 2 (by omega)
  have ht' : wW [some (.int k), some x, some (.scr ns), some (.int z)] = bnd (bnd (okO (ah [.scr ns, .int (z + k), .int 2])) fun x => eqX x (.int 0)) toB := by kernel_rfl
  have hu : fj (gP 0 1) (some wW) (ac 1) [none, none, some (.scr ns), some (.int z)] (eS k (x :: r)) = (match wW [some (.int k), some x, some (.scr ns), some (.int z)] with
   | some (.ok true) => (match fj (gP 0 1) (some wW) (ac 1) [none, none, some (.scr ns), some (.int z)] (eS (k + 1) r) with | some ys => some (x :: ys) | none => none)
   | some (.ok false) => fj (gP 0 1) (some wW) (ac 1) [none, none, some (.scr ns), some (.int z)] (eS (k + 1) r)
   | _ => none) := by kernel_rfl
  rw [hu, ht', hd, e]
  have hc : d = 0 ∨ d = 1 := by omega
  rcases hc with rfl | rfl
  · exact ⟨x :: t, by simp [fK, ht], by kernel_rfl⟩
  · exact ⟨t, by simp [fK, ht], by kernel_rfl⟩
theorem jU : ∀ {l t : List Dv}, t ∈ fK l → t.length ≤ l.length
 | [], t, h => by simp [fK] at h; simp [h]
 | x :: r, t, h => by
  simp only [fK, List.mem_append, List.mem_map] at h
  rcases h with ⟨u, hu, rfl⟩ | h
  · have := jU hu; simp; omega
  · have := jU h; simp; omega
theorem tM (ns : List Int) (hl : ns.length ≤ 63) : ∃ t ∈ fK rules, cL [.scr ns, .int 0] = some (.ok (.tup t)) := by
 obtain ⟨t, ht, e⟩ := uN ns hl 0 rules 0
 refine ⟨t, ht, ?_⟩
 have hle : t.length ≤ 100000 := by have := jU ht; have : rules.length = 8 := rfl; omega
 have hu : cL [.scr ns, .int 0] = (match bI (bnd (bnd (match fj (gP 0 1) (some wW) (ac 1) [none, none, some (.scr ns), some (.int 0)] (eS 0 rules) with
  | some ys => if ys.length ≤ 100000 ∧ (eS 0 rules).length ≤ 100000 then (some (.ok (.lst ys)) : Option (Rs Dv)) else none
  | none => none) fun x => bnd (some (.ok [])) fun ys => some (.ok (x :: ys))) ij) fun d => some (.rt d) with
  | some (.nx _) => some (.ok .non)
  | some (.rt d) => some (.ok d)
  | _ => none) := by kernel_rfl
 rw [hu, e]
 dsimp only
 rw [if_pos ⟨hle, by decide⟩]
 rfl
end G
namespace G
open PySem PySem.Spec PyProof.Rows L2 FD TS
def jg (t : List Dv) (h : Str) : Bool := match bf [.tup t, .str h], cF [.tup t, .str h] with
 | some (.ok .non), some (.ok .non) => true
 | some (.ok (.str z)), some (.ok (.str y)) => seq z y && PyData.canLay0 (.str z)
 | _, _ => false
def bX : Nat → List (List Dv)
 | 0 => fK rules
 | k + 1 => (bX k).drop 16
theorem mz {α : Type} {l : List α} {p : α → Bool} (n : Nat) (h1 : (l.take n).all p = true) (h2 : (l.drop n).all p = true) : l.all p = true := by
 rw [← List.take_append_drop n l, List.all_append, h1, h2]; rfl
theorem Er : ((bX 0).take 16).all (fun t => En.all (jg t)) = true := by kernel_rfl
theorem Es : ((bX 1).take 16).all (fun t => En.all (jg t)) = true := by kernel_rfl
theorem Et : ((bX 2).take 16).all (fun t => En.all (jg t)) = true := by kernel_rfl
theorem Eu : ((bX 3).take 16).all (fun t => En.all (jg t)) = true := by kernel_rfl
theorem Ew : ((bX 4).take 16).all (fun t => En.all (jg t)) = true := by kernel_rfl
theorem Ex : ((bX 5).take 16).all (fun t => En.all (jg t)) = true := by kernel_rfl
theorem Ey : ((bX 6).take 16).all (fun t => En.all (jg t)) = true := by kernel_rfl
theorem Ez : ((bX 7).take 16).all (fun t => En.all (jg t)) = true := by kernel_rfl
theorem EA : ((bX 8).take 16).all (fun t => En.all (jg t)) = true := by kernel_rfl
theorem EB : ((bX 9).take 16).all (fun t => En.all (jg t)) = true := by kernel_rfl
theorem CQ : ((bX 10).take 16).all (fun t => En.all (jg t)) = true := by kernel_rfl
theorem CS : ((bX 11).take 16).all (fun t => En.all (jg t)) = true := by kernel_rfl
theorem CU : ((bX 12).take 16).all (fun t => En.all (jg t)) = true := by kernel_rfl
theorem CV : ((bX 13).take 16).all (fun t => En.all (jg t)) = true := by kernel_rfl
theorem CW : ((bX 14).take 16).all (fun t => En.all (jg t)) = true := by kernel_rfl
theorem CY : ((bX 15).take 16).all (fun t => En.all (jg t)) = true := by kernel_rfl
theorem AJ : (fK rules).all (fun t => En.all (jg t)) = true := mz (l := bX 0) 16 Er (mz (l := bX 1) 16 Es (mz (l := bX 2) 16 Et (mz (l := bX 3) 16 Eu (mz (l := bX 4) 16 Ew (mz (l := bX 5) 16 Ex (mz (l := bX 6) 16 Ey (mz (l := bX 7) 16 Ez (mz (l := bX 8) 16 EA (mz (l := bX 9) 16 EB (mz (l := bX 10) 16 CQ (mz (l := bX 11) 16 CS (mz (l := bX 12) 16 CU (mz (l := bX 13) 16 CV (mz (l := bX 14) 16 CW CY))))))))))))))
theorem rA {t : List Dv} (ht : t ∈ fK rules) {h : Str} (hh : h ∈ En) : ∃ o, bf [.tup t, .str h] = some (.ok o) ∧ cF [.tup t, .str h] = some (.ok o) ∧ (o = .non ∨ ∃ z, o = .str z ∧ PyData.canLay0 (.str z) = true) := by
 have q := cQ (p := jg t) (cQ (p := fun t => En.all (jg t)) AJ ht) hh
 unfold jg at q
 split at q
 · rename_i e e'
   exact ⟨_, e, e', .inl rfl⟩
 · rename_i z y e e'
   rw [Bool.and_eq_true] at q
   have := tJ q.1
   subst this
   exact ⟨_, e, e', .inr ⟨_, rfl, q.2⟩⟩
 · cases q
def lv (t : List Dv) (h : Str) : Str := match bf [.tup t, .str h] with
 | some (.ok (.str z)) => z
 | _ => h
def gnm (t : List Dv) (n : bA) : Str := lv t n.house
theorem rB {t : List Dv} (ht : t ∈ fK rules) {n : bA} (g : Good n) : bw [.tup t, enc n] = some (.ok (.str (gnm t n))) ∧ aV [.tup t, enc n] = some (.ok (.str (gnm t n))) ∧ PyData.canLay0 (.str (gnm t n)) = true := by
 have hh := g.house
 obtain ⟨o, e, e', q⟩ := rA ht hh
 unfold gnm lv
 rw [e]
 rcases q with rfl | ⟨z, rfl, q⟩
 · refine ⟨by simp [bw, aZ, dA, aD, sq, aR, ay, bh, bI, bnd, fB, toB, ag, aa, ae, ac, fC, f2, ixD, atD, isN, enc, e], by simp [aV, aZ, cK, aD, sq, ay, bh, bI, bnd, fB, toB, ag, aa, ae, ac, fC, f2, ixD, atD, fIf, isN, enc, e'], ?_⟩
   exact jS (by unfold signs0; simp [hh])
 · exact ⟨by simp [bw, aZ, dA, aD, sq, aR, ay, bh, bI, bnd, fB, toB, ag, aa, ae, ac, fC, f2, ixD, atD, isN, enc, e], by simp [aV, aZ, cK, aD, sq, ay, bh, bI, bnd, fB, toB, ag, aa, ae, ac, fC, f2, ixD, atD, fIf, isN, enc, e'], q⟩
theorem uO {f : FnE} {ρ : Ev} {ds : List Dv} (h : f ρ = some (.ok (.lst ds))) : bY f ρ = some (.ok ds) := by unfold bY; rw [h]; rfl
theorem rD (a b : Str) : eqX (.str a) (.str b) = some (.ok (.bl (decide (a = b)))) := by
 show some (Rs.ok (Dv.bl (seq a b))) = _
 congr 3
 rw [← mO]
 rw [Bool.eq_iff_iff]
 simp
theorem jh : ∀ ks : List Str, cU (ks.map Dv.str) = some ks
 | [] => rfl
 | x :: ks => by
  show (cU (ks.map Dv.str)).map (x :: ·) = _
  rw [jh ks]
  rfl
theorem ji {ks : List Str} (h : ks.length ≤ 59) : gw [.lst (ks.map Dv.str)] = some (.ok (.lst ((isortB leS (ST.ddk ks)).map Dv.str))) := by
 show (match cU (ks.map Dv.str) with | some ks => if ks.length ≤ 59 then (some (.ok (.lst ((isortB leS (ST.ddk ks)).map Dv.str))) : Option (Rs Dv)) else none | none => none) = _
 rw [jh]
 dsimp only
 rw [if_pos h]
section
variable {t : List Dv} {js xs : List bA}
def mem (f : bA → Str) (l : List bA) (g : Str) : List bA := l.filter fun i => decide (f i = g)
def gls (t : List Dv) (xs : List bA) : List Str := isortB leS (ST.ddk (xs.map (gnm t)))
theorem mB {t : List Dv} {xs : List bA} : (gls t xs).length ≤ xs.length := by
 unfold gls
 rw [(isortB_perm leS _).length_eq]
 have := ST.ddk_le (xs.map (gnm t))
 simpa using this
theorem nR {α : Type} [DecidableEq α] : ∀ (ks acc : List α) (x : α), x ∈ ks.foldl ST.addK acc → x ∈ ks ∨ x ∈ acc
 | [], acc, x, h => .inr h
 | k :: ks, acc, x, h => by
  rcases nR ks _ x h with q | q
  · exact .inl (List.mem_cons_of_mem _ q)
  · unfold ST.addK at q
    split at q
    · exact .inr q
    · rcases List.mem_cons.mp q with rfl | q
      · exact .inl List.mem_cons_self
      · exact .inr q
theorem wX (ht : t ∈ fK rules) (hg : ∀ n ∈ xs, Good n) {g : Str} (h : g ∈ gls t xs) : PyData.canLay0 (.str g) = true := by
 unfold gls at h
 rw [(isortB_perm leS _).mem_iff] at h
 rcases nR _ _ _ h with q | q
 · obtain ⟨n, hn, rfl⟩ := List.mem_map.mp q
   exact (rB ht (hg n hn)).2.2
 · simp at q
def row (t : List Dv) (xs : List bA) (g : Str) : Dv := .tup [.str g, .int (mem (gnm t) xs g).length]
theorem AK (g : Str) : zg ((xs.map (gnm t)).map Dv.str) [.str g] = some (.ok (.int (mem (gnm t) xs g).length)) ∨ 100000 < xs.length := by
 by_cases hl : xs.length ≤ 100000
 · left
   have h1 : ((xs.map (gnm t)).map Dv.str).all dD = true := by simp [List.all_map, dD]
   have h2 : ((xs.map (gnm t)).map Dv.str).countP (fun y => eqF y (.str g)) = (mem (gnm t) xs g).length := by
    rw [List.map_map, List.countP_map]
    unfold mem
    rw [List.countP_eq_length_filter]
    congr 1
    apply List.filter_congr
    intro n _
    show seq (gnm t n) g = _
    rw [← mO, Bool.eq_iff_iff]
    simp
   show (if _ then some (Rs.ok (Dv.int (((xs.map (gnm t)).map Dv.str).countP (fun y => eqF y (.str g)) : Nat))) else none) = _
   rw [h1, h2, if_pos (by simp [dD, hl])]
 · right; omega
end
theorem jj : ∀ rs : List (List Dv), iq (rs.map Dv.tup) = some rs
 | [] => rfl
 | r :: rs => by
  show (iq (rs.map Dv.tup)).map (r :: ·) = _
  rw [jj rs]
  rfl
theorem wY {k : Nat} {d : Dv} (h : It1 k d) (hk : k ≤ 64) : neX d d = some (.ok (.bl false)) := wO (h.okP hk) h.p
structure Ask where
 s : Bool
 h : Str
 p : Str
 O : Dv
def cg (a : Ask) : Dv := .tup [.bl a.s, .str a.h, .str a.p, a.O]
structure iJ (a : Ask) : Prop where
 h : a.h ∈ menu
 p : a.p ∈ pths
 o : a.O = .non ∨ ∃ o ∈ menu, a.O = .str o
def no : FnS := ay (fC (.bl false))
def sk : FnS := (fun ρ => some (.nx ρ))
theorem oD {c : FnB} {rest : FnS} {ρ : Ev} {b : Bool} (hc : c ρ = some (.ok b)) : aD (aR c no sk) rest ρ = if b = true then some (.rt (.bl false)) else rest ρ := by
 unfold aD aR
 rw [hc]
 cases b <;> rfl
theorem jV (n : bA) (k : Int) : aP [enc n, .int k] = bo (dO n k) := by
 cases h : n.ends <;> simp [aP, aZ, dJ, aD, sq, aR, ay, a5, bh, bI, bnd, bOr, cX, bu, fB, toB, ag, aA, aa, ae, ac, fC, f1, f2, ixD, atD, vOr, cT, eR, fIf, aT, bq, fB1, fM, aL, isN, dC, cB, aI, br, bB, bJ, enc, eO, dO, h, leX]
theorem AM {t : List Dv} (ht : t ∈ fK rules) {a : Ask} (g : iJ a) : ∃ k, ax [.tup t, cg a] = bo k ∧ aO [.tup t, cg a] = bo k := by
 obtain ⟨s, h, p, O⟩ := a
 have ha : h ∈ menu := g.h
 have ho : O = .non ∨ ∃ o ∈ menu, O = .str o := g.o
 rcases ho with rfl | ⟨o, ho, rfl⟩
 · exact ⟨true, by simp [ax, aZ, aH, cg, aD, sq, aR, ay, a5, bh, bI, bnd, bOr, cX, bu, fB, toB, ag, aA, aa, ae, ac, fC, f1, f2, ixD, atD, vOr, cT, eR, fIf, aT, bq, fB1, fM, aL, isN, dC, cB, aI, br, bB, bJ], by simp [aO, aZ, bC, cg, aD, sq, aR, ay, a5, bh, bI, bnd, bOr, cX, bu, fB, toB, ag, aA, aa, ae, ac, fC, f1, f2, ixD, atD, vOr, cT, eR, fIf, aT, bq, fB1, fM, aL, isN, dC, cB, aI, br, bB, bJ]⟩
 · obtain ⟨o1, e1, f1', h1⟩ := rA ht (me ha)
   obtain ⟨o2, e2, f2', h2⟩ := rA ht (me ho)
   cases q : seq o h with
   | true => exact ⟨true, by simp [ax, aZ, aH, cg, aD, sq, aR, ay, a5, bh, bI, bnd, bOr, cX, bu, fB, toB, ag, aA, aa, ae, ac, fC, f1, f2, ixD, atD, vOr, cT, eR, fIf, aT, bq, fB1, fM, aL, isN, dC, cB, aI, br, bB, bJ, eqX, eqS, q], by simp [aO, aZ, bC, cg, aD, sq, aR, ay, a5, bh, bI, bnd, bOr, cX, bu, fB, toB, ag, aA, aa, ae, ac, fC, f1, f2, ixD, atD, vOr, cT, eR, fIf, aT, bq, fB1, fM, aL, isN, dC, cB, aI, br, bB, bJ, eqX, eqS, q]⟩
   | false =>
    rcases h1 with rfl | ⟨z1, rfl, _⟩
    · exact ⟨false, by simp [ax, aZ, aH, cg, aD, sq, aR, ay, a5, bh, bI, bnd, bOr, cX, bu, fB, toB, ag, aA, aa, ae, ac, fC, f1, f2, ixD, atD, vOr, cT, eR, fIf, aT, bq, fB1, fM, aL, isN, dC, cB, aI, br, bB, bJ, eqX, eqS, q, e1, e2], by simp [aO, aZ, bC, cg, aD, sq, aR, ay, a5, bh, bI, bnd, bOr, cX, bu, fB, toB, ag, aA, aa, ae, ac, fC, f1, f2, ixD, atD, vOr, cT, eR, fIf, aT, bq, fB1, fM, aL, isN, dC, cB, aI, br, bB, bJ, eqX, eqS, q, f1', f2']⟩
    · rcases h2 with rfl | ⟨z2, rfl, _⟩
      · exact ⟨false, by simp [ax, aZ, aH, cg, aD, sq, aR, ay, a5, bh, bI, bnd, bOr, cX, bu, fB, toB, ag, aA, aa, ae, ac, fC, f1, f2, ixD, atD, vOr, cT, eR, fIf, aT, bq, fB1, fM, aL, isN, dC, cB, aI, br, bB, bJ, eqX, eqS, q, e1, e2], by simp [aO, aZ, bC, cg, aD, sq, aR, ay, a5, bh, bI, bnd, bOr, cX, bu, fB, toB, ag, aA, aa, ae, ac, fC, f1, f2, ixD, atD, vOr, cT, eR, fIf, aT, bq, fB1, fM, aL, isN, dC, cB, aI, br, bB, bJ, eqX, eqS, q, f1', f2']⟩
      · exact ⟨seq z1 z2, by simp [ax, aZ, aH, cg, aD, sq, aR, ay, a5, bh, bI, bnd, bOr, cX, bu, fB, toB, ag, aA, aa, ae, ac, fC, f1, f2, ixD, atD, vOr, cT, eR, fIf, aT, bq, fB1, fM, aL, isN, dC, cB, aI, br, bB, bJ, eqX, eqS, q, e1, e2], by simp [aO, aZ, bC, cg, aD, sq, aR, ay, a5, bh, bI, bnd, bOr, cX, bu, fB, toB, ag, aA, aa, ae, ac, fC, f1, f2, ixD, atD, vOr, cT, eR, fIf, aT, bq, fB1, fM, aL, isN, dC, cB, aI, br, bB, bJ, eqX, eqS, q, f1', f2']⟩
theorem AN : (En.all fun p => menu.all fun q => okB (bc [.str p, .str q])) = true := by kernel_rfl
theorem EC {p q : Str} (h : p ∈ En) (h' : q ∈ menu) : ∃ k, bc [.str p, .str q] = bo k := Aw (cQ (p := fun q => okB (bc [.str p, .str q])) (cQ (p := fun p => menu.all fun q => okB (bc [.str p, .str q])) AN h) h')
def Bd (p q : Str) : Bool := match cm [.str p, .str q], bD [.str p, .str q] with
 | some (.ok (.bl k)), some (.ok (.bl k')) => k == k'
 | _, _ => false
theorem wZ : (pths.all fun p => pths.all fun q => Bd p q) = true := by kernel_rfl
theorem CZ {p q : Str} (h : p ∈ pths) (h' : q ∈ pths) : ∃ k, cm [.str p, .str q] = bo k ∧ bD [.str p, .str q] = bo k := by
 have z := cQ (p := fun q => Bd p q) (cQ (p := fun p => pths.all fun q => Bd p q) wZ h) h'
 unfold Bd at z
 split at z
 · rename_i k k' e1 e2
   have : k = k' := by simpa using z
   subst this
   exact ⟨k, e1, e2⟩
 · cases z
theorem tN (x y : Str) : seq x y = seq y x := by
 unfold seq
 rw [Bool.eq_iff_iff]
 simp
 exact ⟨fun h => h.symm, fun h => h.symm⟩
theorem rE (n : bA) (k : Int) (a c : Option Dv) (r : Ev) : cX (fB (f2 dC (f2 ixD (ac 1) (fC (.int 5))) (fC .non))) (fB (f2 leX (f2 ixD (ac 1) (fC (.int 5))) (ac 3))) (a :: some (enc n) :: c :: some (.int k) :: r) = some (.ok (dO n k)) := by
 cases h : n.ends <;> simp [aD, sq, aR, ay, a5, bh, bI, bnd, bOr, cX, bu, fB, toB, ag, aA, aa, ae, ac, fC, f1, f2, ixD, atD, vOr, cT, eR, fIf, aT, bq, fB1, fM, aL, isN, dC, cB, aI, br, bB, bJ, enc, dO, eO, h, leX]
theorem w9 {t : List Dv} (ht : t ∈ fK rules) {n : bA} (g : Good n) {a : Ask} (ga : iJ a) (now : Int) :
 ∃ k, k6 [.tup t, enc n, cg a, .int now] = bo k ∧ cG [.tup t, enc n, cg a, .int now] = bo k := by
 obtain ⟨kn, n1, n2⟩ := AM ht ga
 obtain ⟨s, h, p, O⟩ := a
 have hh : h ∈ menu := ga.h
 have hp : p ∈ pths := ga.p
 obtain ⟨kwi, w1⟩ := EC (me hh) g.house
 obtain ⟨ku, u1, u2⟩ := CZ hp g.path
 have w2 : bK [.str h, .str n.house] = bo kwi := w1
 have q1 : eqX (.str n.house) (.str h) = bo (seq h n.house) := by rw [tN]; rfl
 have q2 : neX (.str h) (.str n.house) = bo (!seq h n.house) := rfl
 have q3 : seq h n.house = true → kwi = true := fun q => by
  have e : bc [.str h, .str n.house] = bo true := by simp [bc, aZ, cV, aD, sq, aR, ay, a5, bh, bI, bnd, bOr, cX, bu, fB, toB, ag, aA, aa, ae, ac, fC, f1, f2, ixD, atD, vOr, cT, eR, fIf, aT, bq, fB1, fM, aL, isN, dC, cB, aI, br, bB, bJ, eqX, eqS, q]
  rw [w1] at e
  simpa using e
 have e1 := jV n now
 obtain ⟨ak, hak⟩ : ∃ d, d = cg ⟨s, h, p, O⟩ := ⟨_, rfl⟩
 have i0 : ixD ak (.int 0) = some (.ok (.bl s)) := by rw [hak]; rfl
 have i1 : ixD ak (.int 1) = some (.ok (.str h)) := by rw [hak]; rfl
 have i2 : ixD ak (.int 2) = some (.ok (.str p)) := by rw [hak]; rfl
 rw [← hak] at n1 n2 ⊢
 have e2 := rE n now (some (.tup t)) (some ak) []
 obtain ⟨r, hr⟩ : ∃ r, eqX (.str n.R) (.str "any") = bo r := ⟨_, rfl⟩
 have f1 : eP [enc n, .str h] = bo (if n.ex = true then seq h n.house else kwi) := by
  cases hx : n.ex <;> simp [eP, aZ, hX, aD, sq, aR, ay, a5, bh, bI, bnd, bOr, cX, bu, fB, toB, ag, aA, aa, ae, ac, fC, f1, f2, ixD, atD, vOr, cT, eR, fIf, aT, bq, fB1, fM, aL, isN, dC, cB, aI, br, bB, bJ, enc, hx, q1, w1]
 have c3 : (cX (fB (f2 ixD (ac 1) (fC (.int 6)))) (bu (fB (f2 ixD (ac 2) (fC (.int 0)))))) [some (.tup t), some (enc n), some ak, some (.int now)] = some (.ok (n.S && !s)) := by
  cases hS : n.S <;> simp [aD, sq, aR, ay, a5, bh, bI, bnd, bOr, cX, bu, fB, toB, ag, aA, aa, ae, ac, fC, f1, f2, ixD, atD, vOr, cT, eR, fIf, aT, bq, fB1, fM, aL, isN, dC, cB, aI, br, bB, bJ, enc, hS, i0, -ixD]
 have z1 : f2 eqX (f2 ixD (ac 1) (fC (.int 7))) (fC (.str "any")) [some (.tup t), some (enc n), some ak, some (.int now)] = bo r := (bZ (x := .str n.R) (y := .str "any") rfl rfl).trans hr
 refine ⟨!dO n now && (if n.ex = true then seq h n.house else kwi) && ku && (!(n.S && !s)) && (r || kn), ?_, ?_⟩
 · have c1 : (bOr (fB (ag aP 2 (aa (ac 1) (aa (ac 3) ae)))) (bu (fB (ag eP 2 (aa (ac 1) (aa (f2 ixD (ac 2) (fC (.int 1))) ae)))))) [some (.tup t), some (enc n), some ak, some (.int now)] = some (.ok (dO n now || !(if n.ex = true then seq h n.house else kwi))) :=
    uL (bS (dG aP rfl rfl e1)) (c0 (bS (dG eP rfl ((bZ (x := ak) (y := .int 1) rfl rfl).trans i1) f1)))
   have c2 : (bu (fB (ag cm 2 (aa (f2 ixD (ac 2) (fC (.int 2))) (aa (f2 ixD (ac 1) (fC (.int 4))) ae))))) [some (.tup t), some (enc n), some ak, some (.int now)] = some (.ok (!ku)) :=
    c0 (bS (dG cm ((bZ (x := ak) (y := .int 2) rfl rfl).trans i2) rfl u1))
   have c4 : (vOr (f2 eqX (f2 ixD (ac 1) (fC (.int 7))) (fC (.str "any"))) (ag ax 2 (aa (ac 0) (aa (ac 2) ae)))) [some (.tup t), some (enc n), some ak, some (.int now)] = bo (r || kn) := by
    have z2 : ag ax 2 (aa (ac 0) (aa (ac 2) ae)) [some (.tup t), some (enc n), some ak, some (.int now)] = bo kn := dG ax rfl rfl n1
    unfold vOr
    rw [z1]
    cases r
    · exact z2
    · rfl
   refine dj ?_
   show (aD (aR _ no sk) (aD (aR _ no sk) (aD (aR _ no sk) (ay _)))) [some (.tup t), some (enc n), some ak, some (.int now)] = _
   rw [oD c1, oD c2, oD c3, AB c4]
   cases dO n now <;> cases (if n.ex = true then seq h n.house else kwi) <;> cases ku <;> cases (n.S && !s) <;> rfl
 · have c2 : (cX (fB (f2 neX (f2 ixD (ac 2) (fC (.int 1))) (f2 ixD (ac 1) (fC (.int 2))))) (bOr (fB (f2 ixD (ac 1) (fC (.int 3)))) (bu (fB (ag bK 2 (aa (f2 ixD (ac 2) (fC (.int 1))) (aa (f2 ixD (ac 1) (fC (.int 2))) ae))))))) [some (.tup t), some (enc n), some ak, some (.int now)] = some (.ok (!seq h n.house && (n.ex || !kwi))) := by
    have j1 : f2 ixD (ac 2) (fC (.int 1)) [some (.tup t), some (enc n), some ak, some (.int now)] = some (.ok (.str h)) := (bZ (x := ak) (y := .int 1) rfl rfl).trans i1
    have z1 : (fB (f2 neX (f2 ixD (ac 2) (fC (.int 1))) (f2 ixD (ac 1) (fC (.int 2))))) [some (.tup t), some (enc n), some ak, some (.int now)] = some (.ok (!seq h n.house)) := bS ((bZ (x := .str h) (y := .str n.house) j1 rfl).trans q2)
    have z2 : (bOr (fB (f2 ixD (ac 1) (fC (.int 3)))) (bu (fB (ag bK 2 (aa (f2 ixD (ac 2) (fC (.int 1))) (aa (f2 ixD (ac 1) (fC (.int 2))) ae)))))) [some (.tup t), some (enc n), some ak, some (.int now)] = some (.ok (n.ex || !kwi)) :=
     uL (bS (k := n.ex) rfl) (c0 (bS (dG bK j1 rfl w2)))
    unfold cX
    rw [z1]
    cases seq h n.house
    · exact z2
    · rfl
   have c4 : (cT (ag bD 2 (aa (f2 ixD (ac 2) (fC (.int 2))) (aa (f2 ixD (ac 1) (fC (.int 4))) ae))) (vOr (f2 eqX (f2 ixD (ac 1) (fC (.int 7))) (fC (.str "any"))) (ag aO 2 (aa (ac 0) (aa (ac 2) ae))))) [some (.tup t), some (enc n), some ak, some (.int now)] = bo (ku && (r || kn)) := by
    have z2 : ag aO 2 (aa (ac 0) (aa (ac 2) ae)) [some (.tup t), some (enc n), some ak, some (.int now)] = bo kn := dG aO rfl rfl n2
    have z3 : ag bD 2 (aa (f2 ixD (ac 2) (fC (.int 2))) (aa (f2 ixD (ac 1) (fC (.int 4))) ae)) [some (.tup t), some (enc n), some ak, some (.int now)] = bo ku := dG bD ((bZ (x := ak) (y := .int 2) rfl rfl).trans i2) rfl u2
    have z4 : (vOr (f2 eqX (f2 ixD (ac 1) (fC (.int 7))) (fC (.str "any"))) (ag aO 2 (aa (ac 0) (aa (ac 2) ae)))) [some (.tup t), some (enc n), some ak, some (.int now)] = bo (r || kn) := by
     unfold vOr
     rw [z1]
     cases r
     · exact z2
     · rfl
    unfold cT
    rw [z3]
    cases ku
    · rfl
    · exact z4
   refine dj ?_
   show (aD (aR _ no sk) (aD (aR _ no sk) (aD (aR _ no sk) (ay _)))) [some (.tup t), some (enc n), some ak, some (.int now)] = _
   rw [oD e2, oD c3, oD c2, AB c4]
   revert q3
   cases dO n now <;> cases (n.S && !s) <;> cases seq h n.house <;> cases n.ex <;> cases kwi <;> cases ku <;> simp
def go (t : List Dv) (n : bA) (a : Ask) (now : Int) : Bool := okY (k6 [.tup t, enc n, cg a, .int now])
theorem lw {t : List Dv} (ht : t ∈ fK rules) {n : bA} (g : Good n) {a : Ask} (ga : iJ a) (now : Int) : k6 [.tup t, enc n, cg a, .int now] = bo (go t n a now) ∧ cG [.tup t, enc n, cg a, .int now] = bo (go t n a now) := by
 obtain ⟨k, h1, h2⟩ := w9 ht g ga now
 have : go t n a now = k := by unfold go; rw [h1]; cases k <;> rfl
 rw [this]
 exact ⟨h1, h2⟩
theorem C0 {a : Ask} (g : iJ a) : eQ [cg a] = bo true := by
 obtain ⟨s, h, p, O⟩ := a
 have e1 : bt [.str h] = bo true := CI (me g.h)
 have e2 : c8 [.str p] = bo true := DO g.p
 have e0 : bM [cg ⟨s, h, p, O⟩, .int 4] = bo true := by simp [bM, aZ, cW, aD, sq, aR, ay, a5, bh, bI, bnd, bOr, cX, bu, fB, toB, ag, aA, aa, ae, ac, fC, f1, f2, ixD, atD, vOr, cT, eR, fIf, aT, bq, fB1, fM, aL, isN, dC, cB, aI, br, bB, bJ, cg, eI, eqX, eqS]
 have ho : O = .non ∨ ∃ o ∈ menu, O = .str o := g.o
 rcases ho with rfl | ⟨o, ho, rfl⟩
 · simp only [cg] at e0 ⊢
   simp [eQ, aZ, gd, aD, sq, aR, ay, a5, bh, bI, bnd, bOr, cX, bu, fB, toB, ag, aA, aa, ae, ac, fC, f1, f2, ixD, atD, vOr, cT, eR, fIf, aT, bq, fB1, fM, aL, isN, dC, cB, aI, br, bB, bJ, e0, e1, e2, iT, ii]
 · have e3 : bt [.str o] = bo true := CI (me ho)
   simp only [cg] at e0 ⊢
   simp [eQ, aZ, gd, aD, sq, aR, ay, a5, bh, bI, bnd, bOr, cX, bu, fB, toB, ag, aA, aa, ae, ac, fC, f1, f2, ixD, atD, vOr, cT, eR, fIf, aT, bq, fB1, fM, aL, isN, dC, cB, aI, br, bB, bJ, e0, e1, e2, e3, iT, ii]
def bT : FnS := (aD (aR (fB (f2 eqX (ac 0) (fC (.int 0)))) (ay (aA bG 2 (aa (ac 1) (aa (ac 2) ae)))) (fun ρ => some (.nx ρ))) (ay (fIf (fB (f2 eqX (ac 0) (fC (.int 1)))) (aA bW 3 (aa (ac 2) (aa (ac 3) (aa (ac 4) ae)))) (aA cx 4 (aa (ac 1) (aa (ac 2) (aa (ac 3) (aa (ac 4) ae))))))))
section
variable {T J a b d : Dv} {w : Int} {c : Nat}
theorem xb (h : bT [some (.int w), some T, some J, some a, some b, none] = some (.rt d)) : aG [.int w, T, J, a, b] = some (.ok d) := dj (by
 show jF 7 5 6 bT (ag aM 1 (aa (ac 5) ae)) [some (.int w), some T, some J, some a, some b, none] = _
 exact Au h)
def rf (k : Int) : Dv := .tup [.str "refused", .int k]
def rk : Nat → Int
 | 1 => 0
 | 5 => 1
 | 3 => 2
 | _ => 3
theorem iQ (h : bT [some (.int w), some T, some J, some a, some b, none] = some (.exc c)) (hc : c = 1 ∨ c = 3 ∨ c = 5 ∨ c = 6) : aG [.int w, T, J, a, b] = some (.ok (rf (rk c))) := dj (by
 show jF 7 5 6 bT (ag aM 1 (aa (ac 5) ae)) [some (.int w), some T, some J, some a, some b, none] = _
 rcases hc with rfl | rfl | rfl | rfl
 · exact tH h (by omega) (dS aM rfl (by kernel_rfl))
 · exact tH h (by omega) (dS aM rfl (by kernel_rfl))
 · exact tH h (by omega) (dS aM rfl (by kernel_rfl))
 · exact tH h (by omega) (dS aM rfl (by kernel_rfl)))
theorem t0 {r : Option (Rs Dv)} (h : bG [T, J] = r) : bT [some (.int 0), some T, some J, some a, some b, none] = bI r fun d => some (.rt d) := by
 have e : (aA bG 2 (aa (ac 1) (aa (ac 2) ae))) [some (.int 0), some T, some J, some a, some b, none] = r := cE bG (ai (x := T) rfl (ai (x := J) rfl aC)) rfl h
 have e0 : fB (f2 eqX (ac 0) (fC (.int 0))) [some (.int 0), some T, some J, some a, some b, none] = some (.ok true) := by kernel_rfl
 unfold bT aD
 rw [wB e0]
 unfold ay
 rw [e]
 match r with
 | none => rfl
 | some (.ok _) => rfl
 | some (.exc _) => rfl
theorem t1 {r : Option (Rs Dv)} (h : bW [J, a, b] = r) : bT [some (.int 1), some T, some J, some a, some b, none] = bI r fun d => some (.rt d) := by
 have e : (aA bW 3 (aa (ac 2) (aa (ac 3) (aa (ac 4) ae)))) [some (.int 1), some T, some J, some a, some b, none] = r := cE bW (ai (x := J) rfl (ai (x := a) rfl (ai (x := b) rfl aC))) rfl h
 have e0 : fB (f2 eqX (ac 0) (fC (.int 0))) [some (.int 1), some T, some J, some a, some b, none] = some (.ok false) := by kernel_rfl
 have e1 : fB (f2 eqX (ac 0) (fC (.int 1))) [some (.int 1), some T, some J, some a, some b, none] = some (.ok true) := by kernel_rfl
 unfold bT
 rw [aw (ba e0)]
 unfold ay
 rw [B4 e1, e]
theorem t2 {r : Option (Rs Dv)} (h : cx [T, J, a, b] = r) : bT [some (.int 2), some T, some J, some a, some b, none] = bI r fun d => some (.rt d) := by
 have e : (aA cx 4 (aa (ac 1) (aa (ac 2) (aa (ac 3) (aa (ac 4) ae))))) [some (.int 2), some T, some J, some a, some b, none] = r := cE cx (ai (x := T) rfl (ai (x := J) rfl (ai (x := a) rfl (ai (x := b) rfl aC)))) rfl h
 have e0 : fB (f2 eqX (ac 0) (fC (.int 0))) [some (.int 2), some T, some J, some a, some b, none] = some (.ok false) := by kernel_rfl
 have e1 : fB (f2 eqX (ac 0) (fC (.int 1))) [some (.int 2), some T, some J, some a, some b, none] = some (.ok false) := by kernel_rfl
 unfold bT
 rw [aw (ba e0)]
 unfold ay
 rw [B5 e1, e]
theorem AO (h : cH [T] = bo true) : al [T] = some (.ok .non) := by simp [al, iX, cw, aD, sq, aR, ay, a5, bh, bI, bnd, bOr, cX, bu, fB, toB, ag, aA, aa, ae, ac, fC, f1, f2, ixD, atD, vOr, cT, eR, fIf, aT, bq, fB1, fM, aL, isN, dC, cB, aI, br, bB, bJ, h]
theorem ED (h : cH [T] = bo false) : al [T] = some (.exc 1) := by simp [al, iX, cw, aD, sq, aR, ay, a5, bh, bI, bnd, bOr, cX, bu, fB, toB, ag, aA, aa, ae, ac, fC, f1, f2, ixD, atD, vOr, cT, eR, fIf, aT, bq, fB1, fM, aL, isN, dC, cB, aI, br, bB, bJ, h]
theorem AQ (h : dN [J] = bo true) : ao [J] = some (.ok .non) := by simp [ao, iX, c9, aD, sq, aR, ay, a5, bh, bI, bnd, bOr, cX, bu, fB, toB, ag, aA, aa, ae, ac, fC, f1, f2, ixD, atD, vOr, cT, eR, fIf, aT, bq, fB1, fM, aL, isN, dC, cB, aI, br, bB, bJ, h]
theorem EF (h : dN [J] = bo false) : ao [J] = some (.exc 5) := by simp [ao, iX, c9, aD, sq, aR, ay, a5, bh, bI, bnd, bOr, cX, bu, fB, toB, ag, aA, aa, ae, ac, fC, f1, f2, ixD, atD, vOr, cT, eR, fIf, aT, bq, fB1, fM, aL, isN, dC, cB, aI, br, bB, bJ, h]
theorem tP (h : aQ [a] = bo true) : am [a] = some (.ok .non) := by simp [am, iX, bV, aD, sq, aR, ay, a5, bh, bI, bnd, bOr, cX, bu, fB, toB, ag, aA, aa, ae, ac, fC, f1, f2, ixD, atD, vOr, cT, eR, fIf, aT, bq, fB1, fM, aL, isN, dC, cB, aI, br, bB, bJ, h]
theorem C4 (h : aQ [a] = bo false) : am [a] = some (.exc 6) := by simp [am, iX, bV, aD, sq, aR, ay, a5, bh, bI, bnd, bOr, cX, bu, fB, toB, ag, aA, aa, ae, ac, fC, f1, f2, ixD, atD, vOr, cT, eR, fIf, aT, bq, fB1, fM, aL, isN, dC, cB, aI, br, bB, bJ, h]
theorem dY (F : List Dv → Option (Rs Dv)) {f : FnE} {ρ : Ev} (hf : f ρ = some (.ok a)) (h : F [a] = some (.ok .non)) : a5 (aA F 1 (aa f ae)) ρ = some (.nx ρ) := sv (cE F (ai hf aC) rfl h)
theorem dX (F : List Dv → Option (Rs Dv)) {f : FnE} {ρ : Ev} (hf : f ρ = some (.ok a)) (h : F [a] = some (.exc c)) : a5 (aA F 1 (aa f ae)) ρ = some (.exc c) := Em (cE F (ai hf aC) rfl h)
theorem EG (h : al [T] = some (.exc c)) : cO [T, J] = some (.exc c) := rM (by
 show cy [some T, some J, none] = _
 unfold cy
 exact tG (dX al rfl h))
theorem C7 (h1 : al [T] = some (.ok .non)) (h : ao [J] = some (.exc c)) : cO [T, J] = some (.exc c) := rM (by
 show cy [some T, some J, none] = _
 unfold cy
 rw [aw (dY al rfl h1)]
 exact tG (dX ao rfl h))
theorem DQ (h : cO [T, J] = some (.exc c)) : bG [T, J] = some (.exc c) := rM (by
 show cf [some T, some J] = _
 unfold cf
 exact CG (wQ (Av (cE cO (ai (x := T) rfl (ai (x := J) rfl aC)) rfl h))))
theorem EH (h : ao [J] = some (.exc c)) : bW [J, a, b] = some (.exc c) := rM (by
 show bH [some J, some a, some b] = _
 unfold bH
 exact tG (dX ao rfl h))
theorem C8 (h1 : ao [J] = some (.ok .non)) (h : am [a] = some (.exc c)) : bW [J, a, b] = some (.exc c) := rM (by
 show bH [some J, some a, some b] = _
 unfold bH
 rw [aw (dY ao rfl h1)]
 exact tG (dX am rfl h))
theorem C9 (h1 : ao [J] = some (.ok .non)) (h2 : am [a] = some (.ok .non)) (h : am [b] = some (.exc c)) : bW [J, a, b] = some (.exc c) := rM (by
 show bH [some J, some a, some b] = _
 unfold bH
 rw [aw (dY ao rfl h1), aw (dY am rfl h2)]
 exact tG (dX am rfl h))
theorem EI (h : al [T] = some (.exc c)) : cx [T, J, a, b] = some (.exc c) := rM (by
 show bN [some T, some J, some a, some b] = _
 unfold bN
 exact tG (dX al rfl h))
theorem Da (h1 : al [T] = some (.ok .non)) (h : ao [J] = some (.exc c)) : cx [T, J, a, b] = some (.exc c) := rM (by
 show bN [some T, some J, some a, some b] = _
 unfold bN
 rw [aw (dY al rfl h1)]
 exact tG (dX ao rfl h))
theorem AR (h1 : al [T] = some (.ok .non)) (h2 : ao [J] = some (.ok .non)) (h : au [a] = bo false) : cx [T, J, a, b] = some (.exc 3) := rM (by
 show bN [some T, some J, some a, some b] = _
 unfold bN
 rw [aw (dY al rfl h1), aw (dY ao rfl h2)]
 exact tG (CH (c0 (bS (dS au rfl h))) rfl))
theorem Db (h1 : al [T] = some (.ok .non)) (h2 : ao [J] = some (.ok .non)) (h3 : au [a] = bo true) (h : am [b] = some (.exc c)) : cx [T, J, a, b] = some (.exc c) := rM (by
 show bN [some T, some J, some a, some b] = _
 unfold bN
 rw [aw (dY al rfl h1), aw (dY ao rfl h2), aw (ba (c0 (bS (dS au rfl h3))))]
 exact tG (dX am rfl h))
end
section
variable {t : List Dv} {js xs : List bA}
theorem rF : ((fK rules).all fun t => okY (cH [.tup t])) = true := by kernel_rfl
theorem eF (ht : t ∈ fK rules) : cH [.tup t] = bo true := li (cQ (p := fun t => okY (cH [.tup t])) rF ht)
def Be (n : bA) : List Dv := [.str n.nm, .str n.house, .str n.path]
def xB (xs : List bA) : Dv := .lst ((isortB (fun a b => !ltL b a) (xs.map Be)).map Dv.tup)
theorem jk (hl : xs.length < 64) : qK [.lst (xs.map ek)] = some (.ok (xB xs)) := by
 have e0 : xs.map ek = (xs.map Be).map Dv.tup := by rw [List.map_map]; rfl
 rw [e0]
 show (match iq ((xs.map Be).map Dv.tup) with
  | some rows => if kL rows = true then some (Rs.ok (Dv.lst ((isortB (fun a b => !ltL b a) rows).map Dv.tup))) else none
  | none => zI [.lst ((xs.map Be).map Dv.tup)]) = _
 rw [jj]
 dsimp only
 rw [if_pos]
 · rfl
 · unfold kL
   rw [Bool.and_eq_true, decide_eq_true_eq, List.all_eq_true]
   refine ⟨by simpa using hl, fun r hr => ?_⟩
   obtain ⟨n, hn, rfl⟩ := List.mem_map.mp hr
   cases xs with
   | nil => simp at hn
   | cons x xs => rfl
theorem xf (hg : ∀ n ∈ xs, Good n) : It1 2 (xB xs) := lg fun d hd => by
 obtain ⟨r, hr, rfl⟩ := List.mem_map.mp hd
 rw [(isortB_perm _ _).mem_iff] at hr
 obtain ⟨n, hn, rfl⟩ := List.mem_map.mp hr
 exact tK (hg n hn)
theorem xg (ht : t ∈ fK rules) (hg : ∀ n ∈ xs, Good n) (hl : xs.length ≤ 18) (g : Str) : cz [.tup t, ej xs, .str g] = some (.ok (xB (mem (gnm t) xs g))) := by
 refine dj ?_
 show bF [some (.tup t), some (ej xs), some (.str g)] = _
 unfold bF
 refine cZ ?_
 have e : (bg [("table", 0), ("group", 2)] (bY (ac 1)) (some (fB (f2 eqX (ag bw 2 (aa (ac 1) (aa (ac 0) ae))) (ac 2)))) (ag iE 1 (aa (ac 0) ae))) [some (.tup t), some (ej xs), some (.str g)] = some (.ok (.lst ((mem (gnm t) xs g).map ek))) :=
  eE enc (fun n => decide (gnm t n = g)) ek (eZ rfl) (by omega) fun n hn => ⟨bS ((bZ (x := .str (gnm t n)) (y := .str g) (dG bw rfl rfl (rB ht (hg n hn)).1) rfl).trans (rD _ _)), dS iE rfl (ro n)⟩
 exact (dP (ai e aC)).trans (jk (by have : (mem (gnm t) xs g).length ≤ xs.length := List.length_filter_le _ _; omega))
theorem oE (ht : t ∈ fK rules) (J : Jar xs) : cO [.tup t, ej xs] = some (.ok (.lst ((gls t xs).map (row t xs)))) := by
 have hl := J.l
 refine tE ?_
 show cy [some (.tup t), some (ej xs), none] = _
 unfold cy
 rw [aw (dY al rfl (AO (eF ht))), aw (dY ao rfl (AQ (rq J)))]
 have e1 : (bg [("table", 0)] (bY (ac 1)) none (ag bw 2 (aa (ac 1) (aa (ac 0) ae)))) [some (.tup t), some (ej xs), none] = some (.ok (.lst ((xs.map (gnm t)).map Dv.str))) := by
  rw [List.map_map]
  exact cA enc (fun n => .str (gnm t n)) (eZ rfl) (by omega) fun n hn => dG bw rfl rfl (rB ht (J.g n hn)).1
 rw [aw (dc e1 rfl)]
 simp only [List.set_cons_succ, List.set_cons_zero]
 refine cZ ?_
 have hgl := mB (t := t) (xs := xs)
 refine cA Dv.str (row t xs) (uO ((dP (ai (x := .lst ((xs.map (gnm t)).map Dv.str)) rfl aC)).trans (ji (by simp; omega)))) (by show (gls t xs).length ≤ 100000; omega) fun g hg => ?_
 refine fk (ai rfl (ai ?_ aC)) (by show 2 ≤ 100000; decide)
 exact (AK (t := t) (xs := xs) g).resolve_right (by omega)
def gk (t : List Dv) (xs : List bA) (g : Str) : Dv := .tup [.str g, xB (mem (gnm t) xs g)]
theorem Dc (ht : t ∈ fK rules) (J : Jar xs) : bG [.tup t, ej xs] = some (.ok (.lst ((gls t xs).map (gk t xs)))) := by
 have hl := J.l
 refine tE ?_
 show cf [some (.tup t), some (ej xs)] = _
 unfold cf
 refine cZ ?_
 have hgl := mB (t := t) (xs := xs)
 exact cA (row t xs) (gk t xs) (uO (cE cO (ai rfl (ai rfl aC)) rfl (oE ht J))) (by omega) fun g hg =>
  fk (ai (x := .str g) rfl (ai (x := xB (mem (gnm t) xs g)) (mv cz rfl rfl rfl (xg ht J.g hl g)) aC)) (by show 2 ≤ 100000; decide)
theorem AS (ht : t ∈ fK rules) (hg : ∀ n ∈ xs, Good n) : It1 4 (.lst ((gls t xs).map (gk t xs))) := lg fun d hd => by
 obtain ⟨g, hgl, rfl⟩ := List.mem_map.mp hd
 refine nN fun d hd => ?_
 simp only [List.mem_cons, List.not_mem_nil, or_false] at hd
 rcases hd with rfl | rfl
 · exact (gi (wX ht hg hgl)).le (by omega)
 · exact xf fun n hn => hg n (List.mem_filter.mp hn).1
def AT (js : List bA) (now far : Int) : List bA := js.filter fun n => dO n (now + far) && !dO n now
theorem rG (J : Jar js) {now far : Int} (h1 : 0 ≤ now) (h2 : now < 40) (h3 : 0 ≤ far) (h4 : far < 40) : bW [ej js, .int now, .int far] = some (.ok (.lst ((AT js now far).map enc))) := by
 have hl := J.l
 refine tE ?_
 show bH [some (ej js), some (.int now), some (.int far)] = _
 unfold bH
 rw [aw (dY ao rfl (AQ (rq J))), aw (dY am rfl (tP (oB h1 (by omega)))), aw (dY am rfl (tP (oB h3 (by omega))))]
 refine cZ (eE enc _ enc (eZ rfl) (by omega) fun n hn => ⟨?_, rfl⟩)
 have k1 : fB (ag aP 2 (aa (ac 0) (aa (f2 cY (ac 1) (ac 2)) ae))) [some (enc n), some (.int now), some (.int far)] = some (.ok (dO n (now + far))) := bS (dG aP rfl rfl (jV n (now + far)))
 have k2 : bu (fB (ag aP 2 (aa (ac 0) (aa (ac 1) ae)))) [some (enc n), some (.int now), some (.int far)] = some (.ok (!dO n now)) := c0 (bS (dG aP rfl rfl (jV n now)))
 show cX _ _ [some (enc n), some (.int now), some (.int far)] = _
 cases h : dO n (now + far) with
 | false => rw [h] at k1; exact y8 k1
 | true => rw [h] at k1; rw [y6 k1, k2]; rfl
variable {as : List Ask} {now : Int}
def nmb (t : List Dv) (n : bA) (as : List Ask) (now : Int) : List Dv := (as.zipIdx.filter fun p => go t n p.1 now).map fun p => Dv.int (p.2 : Int)
theorem xh (as : List Ask) : rng 0 as.length = as.zipIdx.map fun p => Dv.int (p.2 : Int) := by
 rw [gJ]
 have e : List.range as.length = as.zipIdx.map Prod.snd := by
  rw [List.range_eq_range']
  simp
 rw [e, List.map_map]
 apply List.map_congr_left
 intro p _
 simp
theorem mC {p : Ask × Nat} (h : p ∈ as.zipIdx) : p.1 ∈ as ∧ ixD (.lst (as.map cg)) (.int (p.2 : Int)) = some (.ok (cg p.1)) := by
 have q : as[p.2]? = some p.1 := List.mem_zipIdx_iff_getElem?.mp h
 refine ⟨List.mem_of_getElem? q, ?_⟩
 show (match atD (as.map cg) (p.2 : Int) with | some d => _ | none => _) = _
 unfold atD
 rw [if_pos (by omega)]
 simp [q]
theorem asks_of (ht : t ∈ fK rules) {n : bA} (g : Good n) (ga : ∀ a ∈ as, iJ a) (hl : as.length ≤ 9) : iB [.tup t, enc n, .lst (as.map cg), .int now] = some (.ok (.lst (nmb t n as now))) := by
 refine dj ?_
 show ez [some (.tup t), some (enc n), some (.lst (as.map cg)), some (.int now)] = _
 unfold ez
 refine cZ (eE (fun p : Ask × Nat => Dv.int (p.2 : Int)) (fun p => go t n p.1 now) (fun p => Dv.int (p.2 : Int)) (l := as.zipIdx) ?_ (by simp; omega) fun p hp => ⟨?_, rfl⟩)
 · have e : (aa (fB1 eI (aa (ac 2) ae)) ae) [some (.tup t), some (enc n), some (.lst (as.map cg)), some (.int now)] = some (.ok [.int (as.length : Int)]) :=
    ai ((dP (ai (x := .lst (as.map cg)) rfl aC)).trans (by show some (Rs.ok (Dv.int ((as.map cg).length : Int))) = _; rw [List.length_map])) aC
   exact (iI (k := iL) e).trans (by rw [nK (by omega), xh])
 · exact bS (dF (ai (x := .tup t) rfl (ai (x := enc n) rfl (ai (x := cg p.1) ((bZ (x := .lst (as.map cg)) (y := .int (p.2 : Int)) rfl rfl).trans (mC hp).2) (ai (x := .int now) rfl aC)))) rfl (lw ht g (ga p.1 (mC hp).1) now).1)
theorem AU (ga : ∀ a ∈ as, iJ a) (hl : as.length ≤ 9) : au [.lst (as.map cg)] = bo true := by
 refine dj ?_
 show bi [some (.lst (as.map cg))] = _
 unfold bi
 have e0 : (bOr (bu (fB (f1 (cB pY) (ac 0)))) (fB (f2 gtD (fB1 eI (aa (ac 0) ae)) (fC (.int 9))))) [some (.lst (as.map cg))] = some (.ok false) := by
  have h1 : bu (fB (f1 (cB pY) (ac 0))) [some (.lst (as.map cg))] = some (.ok false) := c0 (k := true) (bS rfl)
  rw [y4 h1]
  have : ¬ ((as.length : Int) > 9) := by omega
  refine bS ((bZ (x := .int (as.length : Int)) (y := .int 9) ((dP (ai (x := .lst (as.map cg)) rfl aC)).trans ?_) rfl).trans ?_)
  · show some (Rs.ok (Dv.int ((as.map cg).length : Int))) = _
    rw [List.length_map]
  · show some (Rs.ok (Dv.bl (decide ((as.length : Int) > 9)))) = _
    rw [decide_eq_false this]
 rw [aw (ba e0)]
 refine cZ ((dP (ai (x := .lst (as.map fun _ => Dv.bl true)) (cA cg (fun _ => Dv.bl true) (mx rfl) (by omega) fun a ha => dS eQ rfl (C0 (ga a ha))) aC)).trans (jT as))
def alo (t : List Dv) (as : List Ask) (now : Int) (n : bA) : Dv := .tup [ek n, .lst (nmb t n as now)]
theorem tQ (ht : t ∈ fK rules) (J : Jar js) (ga : ∀ a ∈ as, iJ a) (hl : as.length ≤ 9) (h1 : 0 ≤ now) (h2 : now < 40) : cx [.tup t, ej js, .lst (as.map cg), .int now] = some (.ok (.lst (js.map (alo t as now)))) := by
 have hjl := J.l
 refine tE ?_
 show bN [some (.tup t), some (ej js), some (.lst (as.map cg)), some (.int now)] = _
 unfold bN
 rw [aw (dY al rfl (AO (eF ht))), aw (dY ao rfl (AQ (rq J))), aw (ba (c0 (bS (dS au rfl (AU ga hl))))), aw (dY am rfl (tP (oB h1 (by omega))))]
 exact cZ (cA enc (alo t as now) (eZ rfl) (by omega) fun n hn => fk (ai (x := ek n) (dS iE rfl (ro n)) (ai (x := .lst (nmb t n as now)) (dF (ai (x := .tup t) rfl (ai (x := enc n) rfl (ai (x := .lst (as.map cg)) rfl (ai (x := .int now) rfl aC)))) rfl (asks_of ht (J.g n hn) ga hl)) aC)) (by show 2 ≤ 100000; decide))
theorem xj (hg : ∀ n ∈ js, Good n) : It1 3 (.lst (js.map (alo t as now))) := lg fun d hd => by
 obtain ⟨n, hn, rfl⟩ := List.mem_map.mp hd
 refine nN fun d hd => ?_
 simp only [List.mem_cons, List.not_mem_nil, or_false] at hd
 rcases hd with rfl | rfl
 · exact tK (hg n hn)
 · refine lg fun d hd => ?_
   obtain ⟨p, _, rfl⟩ := List.mem_map.mp hd
   exact nO
end
theorem lm (ns : List Int) (hl : ns.length ≤ 63) : ∀ ks : List Int, ∃ as : List Ask, fj (gN 0) none (ag cD 2 (aa (ac 1) (aa (f2 cC (fC (.int 120)) (f2 fI (fC (.int 10)) (ac 0))) ae))) [none, some (.scr ns)] (ks.map Dv.int) = some (as.map cg) ∧ as.length = ks.length ∧ (∀ a ∈ as, iJ a) ∨ ∃ k ∈ ks, ¬ (-18446744073709551616 < k ∧ k < 18446744073709551616)
 | [] => ⟨[], .inl ⟨rfl, rfl, fun _ h => by simp at h⟩⟩
 | k :: ks => by
  obtain ⟨as, h | h⟩ := lm ns hl ks
  · obtain ⟨h1, h2, h3⟩ := h
    by_cases hk : -18446744073709551616 < k ∧ k < 18446744073709551616
    · obtain ⟨s, h, p, O, g1, g2, g3, e⟩ := tI ns hl (120 + 10 * k)
      refine ⟨⟨s, h, p, O⟩ :: as, .inl ⟨?_, by simp [h2], fun a ha => ?_⟩⟩
      · have ek : ag cD 2 (aa (ac 1) (aa (f2 cC (fC (.int 120)) (f2 fI (fC (.int 10)) (ac 0))) ae)) [some (.int k), some (.scr ns)] = some (.ok (cg ⟨s, h, p, O⟩)) :=
         dG cD rfl ((bZ (x := .int 120) (y := .int (10 * k)) rfl ((bZ (x := .int 10) (y := .int k) rfl rfl).trans (jf (.inl (by omega))))).trans (my _ _)) e
        rw [List.map_cons, List.map_cons]
        unfold fj
        show (match ag cD 2 (aa (ac 1) (aa (f2 cC (fC (.int 120)) (f2 fI (fC (.int 10)) (ac 0))) ae)) [some (.int k), some (.scr ns)] with | some (.ok y) => _ | _ => _) = _
        rw [ek, h1]
      · rcases List.mem_cons.mp ha with rfl | ha
        · exact ⟨g1, g2, g3⟩
        · exact h3 a ha
    · exact ⟨[], .inr ⟨k, List.mem_cons_self, hk⟩⟩
  · obtain ⟨k', hk', h⟩ := h
    exact ⟨[], .inr ⟨k', List.mem_cons_of_mem _ hk', h⟩⟩
theorem xl (ns : List Int) (hl : ns.length ≤ 63) (t js : Dv) : ∃ as : List Ask, jQ [some (.scr ns), some t, some js, none, none, none, none, none, none, none, none, none] = some (.ok (.lst (as.map cg))) ∧ as.length ≤ 3 ∧ ∀ a ∈ as, iJ a := by
 obtain ⟨d, a0, a1, hd⟩ := aY ns hl 110 4 (by omega)
 obtain ⟨m, rfl⟩ : ∃ m : Nat, d = m := ⟨d.toNat, by omega⟩
 have hr : rng 0 m = ((List.range m).map fun i : Nat => (0 + (i : Int))).map Dv.int := by rw [gJ, List.map_map]; rfl
 obtain ⟨as, h | h⟩ := lm ns hl ((List.range m).map fun i : Nat => (0 + (i : Int)))
 · obtain ⟨h1, h2, h3⟩ := h
   simp at h2
   refine ⟨as, ?_, by omega, h3⟩
   unfold jQ aU
   have e : (aa (ag ah 3 (aa (ac 0) (aa (fC (.int 110)) (aa (fC (.int 4)) ae)))) ae) [some (.scr ns), some t, some js, none, none, none, none, none, none, none, none, none] = some (.ok [.int (m : Int)]) := ai (mv ah rfl rfl rfl hd) aC
   have e2 : bnd ((aa (ag ah 3 (aa (ac 0) (aa (fC (.int 110)) (aa (fC (.int 4)) ae)))) ae) [some (.scr ns), some t, some js, none, none, none, none, none, none, none, none, none]) iL = some (.ok (rng 0 m)) := (iI (k := iL) e).trans (nK (by omega))
   refine (iI e2).trans ?_
   rw [hr]
   show (match fj (gN 0) none _ [none, some (.scr ns)] _ with | some ys => _ | none => _) = _
   rw [h1]
   dsimp only
   rw [if_pos ⟨by simp; omega, by simp; omega⟩]
 · obtain ⟨k, hk, h⟩ := h
   obtain ⟨i, hi, rfl⟩ := List.mem_map.mp hk
   have := List.mem_range.mp hi
   exact absurd ⟨by omega, by omega⟩ h
theorem ln {tst : FnB} {elt : FnE} {cap : Ev} {α : Type} (u v f : α → Dv) (p : α → Bool) : ∀ {l : List α}, (∀ a ∈ l, tst ((cap.set 0 (some (u a))).set 1 (some (v a))) = some (.ok (p a)) ∧ elt ((cap.set 0 (some (u a))).set 1 (some (v a))) = some (.ok (f a))) → fj (gP 0 1) (some tst) elt cap (l.map fun a => .tup [u a, v a]) = some ((l.filter p).map f)
 | [], _ => rfl
 | a :: l, h => by
  have ih := ln (tst := tst) (elt := elt) (cap := cap) u v f p (l := l) fun b hb => h b (List.mem_cons_of_mem _ hb)
  obtain ⟨h1, h2⟩ := h a List.mem_cons_self
  rw [List.map_cons]
  unfold fj
  show (match tst ((cap.set 0 (some (u a))).set 1 (some (v a))) with | some (.ok true) => _ | some (.ok false) => _ | _ => _) = _
  rw [h1, ih]
  cases q : p a with
  | true => dsimp only; rw [h2, List.filter_cons_of_pos q]; rfl
  | false => dsimp only; rw [List.filter_cons_of_neg (by rw [q]; decide)]
theorem oF {cs : List (Str × Nat)} {src : FnA} {tst : FnB} {elt : FnE} {ρ : Ev} {α : Type} (u v f : α → Dv) (p : α → Bool) {l : List α} (hs : src ρ = some (.ok (l.map fun a => .tup [u a, v a]))) (hl : l.length ≤ 100000) (h : ∀ a ∈ l, tst (((eL 2 cs ρ).set 0 (some (u a))).set 1 (some (v a))) = some (.ok (p a)) ∧ elt (((eL 2 cs ρ).set 0 (some (u a))).set 1 (some (v a))) = some (.ok (f a))) : aU 2 cs src (gP 0 1) (some tst) elt ρ = some (.ok (.lst ((l.filter p).map f))) := by
 unfold aU
 rw [hs]
 show (match fj (gP 0 1) (some tst) elt (eL 2 cs ρ) (l.map fun a => .tup [u a, v a]) with | some ys => _ | none => _) = _
 rw [ln u v f p h]
 dsimp only
 have := List.length_filter_le p l
 rw [if_pos ⟨by simp; omega, by simpa using hl⟩]
theorem nU : ∀ (as : List Ask) (k : Nat), eS k (as.map cg) = (as.zipIdx k).map fun p => Dv.tup [.int (p.2 : Int), cg p.1]
 | [], _ => rfl
 | a :: as, k => by
  show Dv.tup [.int (k : Int), cg a] :: eS (k + 1) (as.map cg) = _
  rw [nU as (k + 1), List.zipIdx_cons]
  rfl
theorem rH (n : bA) : bL [enc n] = some (.ok (ek n)) := by simp [bL, aZ, eN, ay, bI, bnd, aa, ae, ac, fC, f2, ixD, atD, aT, enc, ek]
theorem xn {js : List bA} (J : Jar js) : dN [.tup (js.map enc ++ [.non])] = bo false := by
 have hl := J.l
 refine dj ?_
 show dM [some (.tup (js.map enc ++ [.non]))] = _
 unfold dM
 have e0 : (bOr (bu (fB (f1 (cB br) (ac 0)))) (fB (f2 gtD (fB1 eI (aa (ac 0) ae)) (fC (.int 20))))) [some (.tup (js.map enc ++ [.non]))] = some (.ok false) := by
  have h1 : bu (fB (f1 (cB br) (ac 0))) [some (.tup (js.map enc ++ [.non]))] = some (.ok false) := c0 (k := true) (bS rfl)
  rw [y4 h1]
  have : ¬ (((js.map enc ++ [Dv.non]).length : Int) > 20) := by simp; omega
  refine bS ((bZ (x := .int ((js.map enc ++ [Dv.non]).length : Int)) (y := .int 20) ((dP (ai (x := .tup (js.map enc ++ [.non])) rfl aC)).trans rfl) rfl).trans ?_)
  show some (Rs.ok (Dv.bl (decide (((js.map enc ++ [Dv.non]).length : Int) > 20)))) = _
  rw [decide_eq_false this]
 rw [aw (ba e0)]
 have e1 : (bg [] (bY (ac 0)) none (ag bE 1 (aa (ac 0) ae))) [some (.tup (js.map enc ++ [.non]))] = some (.ok (.lst ((js.map some ++ [none]).map fun o : Option bA => Dv.bl o.isSome))) := by
  refine cA (fun o : Option bA => match o with | some n => enc n | none => .non) _ (l := js.map some ++ [none]) (rj ?_) (by simp; omega) fun o ho => ?_
  · show some (Rs.ok (Dv.tup (js.map enc ++ [.non]))) = _
    rw [List.map_append, List.map_map]
    rfl
  · rcases List.mem_append.mp ho with q | q
    · obtain ⟨n, hn, rfl⟩ := List.mem_map.mp q
      exact dS bE rfl (uM (J.g n hn))
    · have : o = none := by simpa using q
      subst this
      exact dS bE rfl (by kernel_rfl)
 have e2 : (bu (fB (fB1 iT (aa (bg [] (bY (ac 0)) none (ag bE 1 (aa (ac 0) ae))) ae)))) [some (.tup (js.map enc ++ [.non]))] = some (.ok true) := by
  refine c0 (k := false) (bS ((dP (ai e1 aC)).trans ((all_map (fun o : Option bA => o.isSome) _).trans ?_)))
  simp [bo]
 exact vL (by rw [wB e2]; rfl)
theorem hZ {i : Nat} {ks : List Nat} {body : FnS} {E : Option Dv → Ev} (he : ∀ x d, (fgt ks (E x)).set i (some d) = E (some d)) (hf : ∀ x, ∃ y, fgt ks (E x) = E y) : ∀ {ds : List Dv}, (∀ d ∈ ds, body (E (some d)) = some (.nx (E (some d)))) → ∀ x, ∃ y, ju i ks body ds (E x) = some (.nx (E y))
 | [], _, x => by
  obtain ⟨y, hy⟩ := hf x
  exact ⟨y, by show some (Fl.nx (fgt ks (E x))) = _; rw [hy]⟩
 | d :: ds, h, x => by
  obtain ⟨y, hy⟩ := hZ (ds := ds) he hf (fun d hd => h d (List.mem_cons_of_mem _ hd)) (some d)
  refine ⟨y, ?_⟩
  show (match body ((fgt ks (E x)).set i (some d)) with | some (.nx ρ') => ju i ks body ds ρ' | o => o) = _
  rw [he, h d List.mem_cons_self]
  exact hy
theorem xo (n : bA) : imm (enc n) = true := by
 unfold enc
 cases h : n.ends <;> simp [imm, imms, eO]
theorem nV : ∀ xs : List bA, imms (xs.map enc) = true
 | [] => by simp [imms]
 | n :: xs => by simp [imms, xo n, nV xs]
theorem xp {a b : List Dv} (h : a.length + b.length ≤ 100000) : cC (.tup a) (.tup b) = some (.ok (.tup (a ++ b))) := by
 show (if _ then _ else _) = _
 rw [if_pos h]
theorem iK {w T J a b d : Dv} {f0 f1 f2 f3 f4 : FnE} {ρ : Ev} (h0 : f0 ρ = some (.ok w)) (h1 : f1 ρ = some (.ok T)) (h2 : f2 ρ = some (.ok J)) (h3 : f3 ρ = some (.ok a)) (h4 : f4 ρ = some (.ok b)) (h : aG [w, T, J, a, b] = some (.ok d)) : ag aG 5 (aa f0 (aa f1 (aa f2 (aa f3 (aa f4 ae))))) ρ = some (.ok d) :=
 dF (ai h0 (ai h1 (ai h2 (ai h3 (ai h4 aC))))) rfl h
theorem xq {i : Nat} {f : FnS} {ρ : Ev} {ds : List Dv} {d : Dv} (h : f (ρ.set i (some (.lst ds))) = some (.rt d)) : xA i f ρ ds = some (.rt d) := by unfold xA; rw [h]
section
variable {ns : List Int} {t : List Dv} {js : List bA} {as : List Ask} {now far : Int}
def EE (ns : List Int) (t : List Dv) (js : List bA) (as : List Ask) (now far : Int) (x9 x10 x11 : Option Dv) : Ev := [some (.scr ns), some (.tup t), some (ej js), some (.lst (as.map cg)), some (.int now), some (.int far), some (.lst ((gls t js).map Dv.str)), some (.lst ((gls t js).map (gk t js))), some (.lst ((AT js now far).map enc)), x9, x10, x11]
theorem lq (ht : t ∈ fK rules) (ga : ∀ a ∈ as, iJ a) (hal : as.length ≤ 9) : ∀ (xs : List bA) (acc : List Dv) (x : Option Dv), (∀ n ∈ xs, Good n) → acc.length + xs.length ≤ 50 →
 il 10 [10] dh (xs.map enc) (EE ns t js as now far none x none) acc = some (.nx (EE ns t js as now far none none none) (acc ++ xs.map (alo t as now)))
 | [], acc, x, _, _ => by rw [List.map_nil, List.map_nil, List.append_nil]; rfl
 | n :: xs, acc, x, hg, hl => by
  have e : dh (EE ns t js as now far none (some (enc n)) none) acc = some (.nx (EE ns t js as now far none (some (enc n)) none) (acc ++ [alo t as now n])) := by
   have c : (aU 2 [("_law_table_here", 1), ("_law_now", 4), ("_law_note", 10)] (fun ρ => bnd ((aa (ac 3) ae) ρ) kj) (gP 0 1) (some (fB (ag cG 4 (aa (ac 2) (aa (ac 4) (aa (ac 1) (aa (ac 3) ae))))))) (ac 0)) (EE ns t js as now far none (some (enc n)) none) = some (.ok (.lst (nmb t n as now))) := by
    refine oF (fun p : Ask × Nat => Dv.int (p.2 : Int)) (fun p => cg p.1) (fun p => Dv.int (p.2 : Int)) (fun p => go t n p.1 now) (l := as.zipIdx) ?_ (by simp; omega) fun p hp => ⟨?_, rfl⟩
    · have e1 : (aa (ac 3) ae) (EE ns t js as now far none (some (enc n)) none) = some (.ok [.lst (as.map cg)]) := ai rfl aC
      refine (iI (k := kj) e1).trans ?_
      show some (Rs.ok (eS 0 (as.map cg))) = _
      rw [nU]
    · exact bS (dF (ai (x := .tup t) rfl (ai (x := enc n) rfl (ai (x := cg p.1) rfl (ai (x := .int now) rfl aC)))) rfl (lw ht (hg n List.mem_cons_self) (ga p.1 (mC hp).1) now).2)
   have e2 : (aT (aa (ag bL 1 (aa (ac 10) ae)) (aa (aU 2 [("_law_table_here", 1), ("_law_now", 4), ("_law_note", 10)] (fun ρ => bnd ((aa (ac 3) ae) ρ) kj) (gP 0 1) (some (fB (ag cG 4 (aa (ac 2) (aa (ac 4) (aa (ac 1) (aa (ac 3) ae))))))) (ac 0)) ae))) (EE ns t js as now far none (some (enc n)) none) = some (.ok (alo t as now n)) :=
    fk (ai (x := ek n) (dS bL rfl (rH n)) (ai c aC)) (by show 2 ≤ 100000; decide)
   unfold dh ux
   rw [if_pos (by simp at hl; omega), e2]
   rfl
  show (match dh (EE ns t js as now far none (some (enc n)) none) acc with | some (.nx ρ' xs') => il 10 [10] dh (xs.map enc) ρ' xs' | o => o) = _
  rw [e]
  dsimp only
  rw [lq ht ga hal xs (acc ++ [alo t as now n]) (some (enc n)) (fun m hm => hg m (List.mem_cons_of_mem _ hm)) (by simp at hl ⊢; omega), List.append_assoc]
  rfl
theorem xr : ∀ d ∈ [Dv.int (-1), .int 10000, .non, .bl true, .str "1"], aQ [d] = bo false ∧ au [d] = bo false := by
 intro d hd
 simp only [List.mem_cons, List.not_mem_nil, or_false] at hd
 rcases hd with rfl | rfl | rfl | rfl | rfl
 · exact ⟨by kernel_rfl, by kernel_rfl⟩
 · exact ⟨by kernel_rfl, by kernel_rfl⟩
 · exact ⟨by kernel_rfl, by kernel_rfl⟩
 · exact ⟨by kernel_rfl, by kernel_rfl⟩
 · exact ⟨by kernel_rfl, by kernel_rfl⟩
theorem ne3 : neX (rf 3) (.tup [.str "refused", .int 3]) = some (.ok (.bl false)) := by kernel_rfl
theorem ne2 : neX (rf 2) (.tup [.str "refused", .int 2]) = some (.ok (.bl false)) := by kernel_rfl
theorem Dd (ht : t ∈ fK rules) (J : Jar js) (ga : ∀ a ∈ as, iJ a) (hal : as.length ≤ 9) {x9 x10 : Option Dv} {d : Dv} (hd : aQ [d] = bo false ∧ au [d] = bo false) : fH (EE ns t js as now far x9 x10 (some d)) = some (.nx (EE ns t js as now far x9 x10 (some d))) := by
 have hT := AO (eF ht)
 have hJ := AQ (rq J)
 have hm := C4 hd.1
 unfold fH
 have q3 : mn (EE ns t js as now far x9 x10 (some d)) = some (.ok false) := bS ((bZ (x := rf 3) (iK rfl rfl rfl rfl rfl (iQ (t1 (C8 hJ hm)) (by simp))) (by kernel_rfl)).trans ne3)
 have q4 : mo (EE ns t js as now far x9 x10 (some d)) = some (.ok false) := bS ((bZ (x := rf 3) (iK rfl rfl rfl rfl rfl (iQ (t1 (C9 hJ (tP (by kernel_rfl)) hm)) (by simp))) (by kernel_rfl)).trans ne3)
 have q5 : mq (EE ns t js as now far x9 x10 (some d)) = some (.ok false) := bS ((bZ (x := rf 3) (iK rfl rfl rfl rfl rfl (iQ (t2 (Db hT hJ (AU ga hal) hm)) (by simp))) (by kernel_rfl)).trans ne3)
 have q6 : mr (EE ns t js as now far x9 x10 (some d)) = some (.ok false) := bS ((bZ (x := rf 2) (iK rfl rfl rfl rfl rfl (iQ (t2 (AR hT hJ hd.2)) (by simp))) (by kernel_rfl)).trans ne2)
 rw [aw (ba q3), aw (ba q4), aw (ba q5), ba q6]
def DR : Dv := .lst (List.replicate 10 (.tup [.bl true, .str "a.b", .str "/", .non]))
theorem tR : ∀ d ∈ [Dv.tup [], .lst [.tup []], .lst [.non], DR], au [d] = bo false := by
 intro d hd
 simp only [List.mem_cons, List.not_mem_nil, or_false] at hd
 rcases hd with rfl | rfl | rfl | rfl
 · kernel_rfl
 · kernel_rfl
 · kernel_rfl
 · kernel_rfl
theorem De (ht : t ∈ fK rules) (J : Jar js) {x9 x10 : Option Dv} {d : Dv} (hd : au [d] = bo false) : gH (EE ns t js as now far x9 x10 (some d)) = some (.nx (EE ns t js as now far x9 x10 (some d))) :=
 ba (bS ((bZ (x := rf 2) (iK rfl rfl rfl rfl rfl (iQ (t2 (AR (AO (eF ht)) (AQ (rq J)) hd)) (by simp))) (by kernel_rfl)).trans ne2))
theorem Df {T J a b : Dv} (hT : al [T] = some (.ok .non)) (hJ : ao [J] = some (.exc 5)) : ∀ i ∈ [0, 1, 2], aG [.int (0 + (i : Nat)), T, J, a, b] = some (.ok (rf 1)) := by
 intro i hi
 simp only [List.mem_cons, List.not_mem_nil, or_false] at hi
 rcases hi with rfl | rfl | rfl
 · exact iQ (w := 0) (t0 (DQ (C7 hT hJ))) (by simp)
 · exact iQ (w := 1) (t1 (EH hJ)) (by simp)
 · exact iQ (w := 2) (t2 (Da hT hJ)) (by simp)
theorem Dg (ht : t ∈ fK rules) {x9 x10 : Option Dv} {d : Dv} (hd : dN [d] = bo false) : gI (EE ns t js as now far x9 x10 (some d)) = some (.nx (EE ns t js as now far x9 x10 (some d))) := by
 have e : (bg [("_law_table_here", 1), ("_law_bad", 11)] (fun ρ => bnd ((aa (fC (.int 3)) ae) ρ) iL) none (ag aG 5 (aa (ac 0) (aa (ac 1) (aa (ac 2) (aa (fC .non) (aa (fC .non) ae))))))) (EE ns t js as now far x9 x10 (some d)) = some (.ok (.lst [rf 1, rf 1, rf 1])) := by
  refine cA (fun i : Nat => Dv.int (0 + (i : Int))) (fun _ => rf 1) (l := [0, 1, 2]) ?_ (by decide) fun i hi => iK rfl rfl rfl rfl rfl (Df (AO (eF ht)) (EF hd) i hi)
  have e3 : (aa (fC (.int 3)) ae) (EE ns t js as now far x9 x10 (some d)) = some (.ok [.int ((3 : Nat) : Int)]) := ai rfl aC
  exact (iI (k := iL) e3).trans ((nK (n := 3) (by omega)).trans (by rw [gJ]; rfl))
 exact ba (bS ((bZ (x := .lst [rf 1, rf 1, rf 1]) (y := .lst [rf 1, rf 1, rf 1]) e (by kernel_rfl)).trans (by kernel_rfl)))
end
theorem tU (ns : List Int) (hl : ns.length ≤ 63) : rh [.scr ns] = some (.ok (.bl true)) := by
 obtain ⟨t, ht, eT⟩ := tM ns hl
 obtain ⟨js, jn, eJ, J, hjl, _⟩ := AF ns hl 20 6 (by omega)
 obtain ⟨as, eA, hal, ga⟩ := xl ns hl (.tup t) (ej js)
 obtain ⟨now, a1, b1, e1⟩ := aY ns hl 111 40 (by omega)
 obtain ⟨far, a2, b2, e2⟩ := aY ns hl 112 40 (by omega)
 have gj := J.g
 have jl := J.l
 have hgl := mB (t := t) (xs := js)
 refine dj ?_
 show rg [some (.scr ns), none, none, none, none, none, none, none, none, none, none, none] = _
 unfold rg
 have w1 : lZ [some (.scr ns), none, none, none, none, none, none, none, none, none, none, none] = some (.ok (.tup t)) := dG cL rfl rfl eT
 rw [aw (dc w1 rfl)]
 simp only [List.set_cons_succ, List.set_cons_zero]
 have w2 : l4 [some (.scr ns), some (.tup t), none, none, none, none, none, none, none, none, none, none] = some (.ok (ej js)) := mv eM rfl rfl rfl eJ
 rw [aw (dc w2 rfl)]
 simp only [List.set_cons_succ, List.set_cons_zero]
 rw [aw (dc eA rfl)]
 simp only [List.set_cons_succ, List.set_cons_zero]
 have w4 : l7 [some (.scr ns), some (.tup t), some (ej js), some (.lst (as.map cg)), none, none, none, none, none, none, none, none] = some (.ok (.int now)) := mv ah rfl rfl rfl e1
 rw [aw (dc w4 rfl)]
 simp only [List.set_cons_succ, List.set_cons_zero]
 have w5 : l8 [some (.scr ns), some (.tup t), some (ej js), some (.lst (as.map cg)), some (.int now), none, none, none, none, none, none, none] = some (.ok (.int far)) := mv ah rfl rfl rfl e2
 rw [aw (dc w5 rfl)]
 simp only [List.set_cons_succ, List.set_cons_zero]
 have w6 : mf [some (.scr ns), some (.tup t), some (ej js), some (.lst (as.map cg)), some (.int now), some (.int far), none, none, none, none, none, none] = some (.ok (.lst ((gls t js).map Dv.str))) := by
  have e : (bg [("_law_table_here", 1)] (bY (ac 2)) none (ag aV 2 (aa (ac 1) (aa (ac 0) ae)))) [some (.scr ns), some (.tup t), some (ej js), some (.lst (as.map cg)), some (.int now), some (.int far), none, none, none, none, none, none] = some (.ok (.lst ((js.map (gnm t)).map Dv.str))) := by
   rw [List.map_map]
   exact cA enc (fun n => .str (gnm t n)) (eZ rfl) (by omega) fun n hn => dG aV rfl rfl (rB ht (gj n hn)).2.1
  exact (dP (ai e aC)).trans (ji (by simp; omega))
 rw [aw (dc w6 rfl)]
 simp only [List.set_cons_succ, List.set_cons_zero]
 have w7 : mh [some (.scr ns), some (.tup t), some (ej js), some (.lst (as.map cg)), some (.int now), some (.int far), some (.lst ((gls t js).map Dv.str)), none, none, none, none, none] = some (.ok (.lst ((gls t js).map (gk t js)))) := by
  refine lc Dv.str (gk t js) (mx rfl) (by omega) fun g hg => ?_
  have e : (bg [("_law_name_here", 0), ("_law_table_here", 1)] (bY (ac 2)) (some (fB (f2 eqX (ag aV 2 (aa (ac 2) (aa (ac 0) ae))) (ac 1)))) (ag bL 1 (aa (ac 0) ae))) [some (.str g), some (.tup t), some (ej js)] = some (.ok (.lst ((mem (gnm t) js g).map ek))) :=
   eE enc (fun n => decide (gnm t n = g)) ek (eZ rfl) (by omega) fun n hn => ⟨bS ((bZ (x := .str (gnm t n)) (y := .str g) (dG aV rfl rfl (rB ht (gj n hn)).2.1) rfl).trans (rD _ _)), dS bL rfl (rH n)⟩
  exact fk (ai (x := .str g) rfl (ai (x := xB (mem (gnm t) js g)) ((dP (ai e aC)).trans (jk (by have : (mem (gnm t) js g).length ≤ js.length := List.length_filter_le _ _; omega))) aC)) (by show 2 ≤ 100000; decide)
 rw [aw (dc w7 rfl)]
 simp only [List.set_cons_succ, List.set_cons_zero]
 have q0 : mi [some (.scr ns), some (.tup t), some (ej js), some (.lst (as.map cg)), some (.int now), some (.int far), some (.lst ((gls t js).map Dv.str)), some (.lst ((gls t js).map (gk t js))), none, none, none, none] = some (.ok false) :=
  bS ((bZ (iK rfl rfl rfl rfl rfl (xb (t0 (Dc ht J)))) rfl).trans (wY (AS ht gj) (by omega)))
 rw [aw (ba q0)]
 have w8 : mj [some (.scr ns), some (.tup t), some (ej js), some (.lst (as.map cg)), some (.int now), some (.int far), some (.lst ((gls t js).map Dv.str)), some (.lst ((gls t js).map (gk t js))), none, none, none, none] = some (.ok (.lst ((AT js now far).map enc))) := by
  refine oA enc (fun n => dO n (now + far) && !dO n now) enc (eZ rfl) (by omega) fun n hn => ⟨?_, rfl⟩
  show cX (fB (f2 dC (f2 ixD (ac 0) (fC (.int 5))) (fC .non))) (fB (gK ltX leX (ac 1) (f2 ixD (ac 0) (fC (.int 5))) (f2 cC (ac 1) (ac 2)))) [some (enc n), some (.int now), some (.int far)] = _
  cases h : n.ends with
  | none => simp [aD, sq, aR, ay, a5, bh, bI, bnd, bOr, cX, bu, fB, toB, ag, aA, aa, ae, ac, fC, f1, f2, ixD, atD, vOr, cT, eR, fIf, aT, bq, fB1, fM, aL, isN, dC, cB, aI, br, bB, bJ, enc, dO, eO, h]
  | some i =>
   by_cases h1 : now < i
   · by_cases h2 : i ≤ now + far
     · have h3 : ¬ i ≤ now := by omega
       simp [aD, sq, aR, ay, a5, bh, bI, bnd, bOr, cX, bu, fB, toB, ag, aA, aa, ae, ac, fC, f1, f2, ixD, atD, vOr, cT, eR, fIf, aT, bq, fB1, fM, aL, isN, dC, cB, aI, br, bB, bJ, enc, dO, eO, h, gK, ltX, leX, cC, cY, h1, h2, h3]
     · have h3 : ¬ i ≤ now := by omega
       simp [aD, sq, aR, ay, a5, bh, bI, bnd, bOr, cX, bu, fB, toB, ag, aA, aa, ae, ac, fC, f1, f2, ixD, atD, vOr, cT, eR, fIf, aT, bq, fB1, fM, aL, isN, dC, cB, aI, br, bB, bJ, enc, dO, eO, h, gK, ltX, leX, cC, cY, h1, h2, h3]
   · have h3 : i ≤ now := by omega
     simp [aD, sq, aR, ay, a5, bh, bI, bnd, bOr, cX, bu, fB, toB, ag, aA, aa, ae, ac, fC, f1, f2, ixD, atD, vOr, cT, eR, fIf, aT, bq, fB1, fM, aL, isN, dC, cB, aI, br, bB, bJ, enc, dO, eO, h, gK, ltX, leX, cC, cY, h1, h3]
 rw [aw (dc w8 rfl)]
 simp only [List.set_cons_succ, List.set_cons_zero]
 have gs : ∀ n ∈ AT js now far, Good n := fun n hn => gj n (List.mem_filter.mp hn).1
 have q1 : ml (EE ns t js as now far none none none) = some (.ok false) :=
  bS ((bZ (iK rfl rfl rfl rfl rfl (xb (t1 (rG J a1 b1 a2 b2)))) rfl).trans (wY (rm gs) (by omega)))
 rw [show [some (.scr ns), some (.tup t), some (ej js), some (.lst (as.map cg)), some (.int now), some (.int far), some (.lst ((gls t js).map Dv.str)), some (.lst ((gls t js).map (gk t js))), some (.lst ((AT js now far).map enc)), none, none, none] = EE ns t js as now far none none none from rfl, aw (ba q1)]
 have fin : (aD (aR iH (ay (fC (.bl false))) (fun ρ => some (.nx ρ))) (aD (lr 11 [] (bY (aT (aa (f1 rL (fC (.int 1))) (aa (fC (.int 10000)) (aa (fC .non) (aa (fC (.bl true)) (aa (fC (.str "1")) ae))))))) fH) (aD (lr 11 [] (bY (aT (aa (aT ae) (aa (bq (aa (aT ae) ae)) (aa (bq (aa (fC .non) ae)) (aa (f2 uA (bq (aa (aT (aa (fC (.bl true)) (aa (fC (.str "a.b")) (aa (fC (.str "/")) (aa (fC .non) ae))))) ae)) (fC (.int 10))) ae)))))) gH) (aD (lr 11 [11] (bY (aT (aa (fC .non) (aa (bq ae) (aa (aT (aa (aT ae) ae)) (aa (f2 cC (ac 2) (aT (aa (fC .non) ae))) ae)))))) gI) (ay jR))))) (EE ns t js as now far (some (.lst (js.map (alo t as now)))) none none) = some (.rt (.bl true)) := by
  have q2 : iH (EE ns t js as now far (some (.lst (js.map (alo t as now)))) none none) = some (.ok false) :=
   bS ((bZ (iK rfl rfl rfl rfl rfl (xb (t2 (tQ ht J ga (by omega) a1 b1)))) rfl).trans (wY (xj gj) (by omega)))
  rw [aw (ba q2)]
  have s1 : (bY (aT (aa (f1 rL (fC (.int 1))) (aa (fC (.int 10000)) (aa (fC .non) (aa (fC (.bl true)) (aa (fC (.str "1")) ae))))))) (EE ns t js as now far (some (.lst (js.map (alo t as now)))) none none) = some (.ok [.int (-1), .int 10000, .non, .bl true, .str "1"]) := by kernel_rfl
  obtain ⟨y1, l1⟩ := hZ (i := 11) (ks := []) (body := fH) (E := EE ns t js as now far (some (.lst (js.map (alo t as now)))) none) (fun _ _ => rfl) (fun x => ⟨x, rfl⟩) (fun d hd => Dd ht J ga (by omega) (xr d hd)) none
  rw [aw ((lE s1).trans l1)]
  have s2 : (bY (aT (aa (aT ae) (aa (bq (aa (aT ae) ae)) (aa (bq (aa (fC .non) ae)) (aa (f2 uA (bq (aa (aT (aa (fC (.bl true)) (aa (fC (.str "a.b")) (aa (fC (.str "/")) (aa (fC .non) ae))))) ae)) (fC (.int 10))) ae)))))) (EE ns t js as now far (some (.lst (js.map (alo t as now)))) none y1) = some (.ok [Dv.tup [], .lst [.tup []], .lst [.non], DR]) := by kernel_rfl
  obtain ⟨y2, l2⟩ := hZ (i := 11) (ks := []) (body := gH) (E := EE ns t js as now far (some (.lst (js.map (alo t as now)))) none) (fun _ _ => rfl) (fun x => ⟨x, rfl⟩) (fun d hd => De ht J (tR d hd)) y1
  rw [aw ((lE s2).trans l2)]
  have s3 : (bY (aT (aa (fC .non) (aa (bq ae) (aa (aT (aa (aT ae) ae)) (aa (f2 cC (ac 2) (aT (aa (fC .non) ae))) ae)))))) (EE ns t js as now far (some (.lst (js.map (alo t as now)))) none y2) = some (.ok [.non, .lst [], .tup [.tup []], .tup (js.map enc ++ [.non])]) :=
   rj (fk (ai (x := .non) rfl (ai (x := .lst []) (by kernel_rfl) (ai (x := .tup [.tup []]) (by kernel_rfl) (ai (x := .tup (js.map enc ++ [.non])) ((bZ (x := ej js) (y := .tup [.non]) rfl (by kernel_rfl)).trans (xp (by simp; omega))) aC)))) (by show 4 ≤ 100000; decide))
  obtain ⟨y3, l3⟩ := hZ (i := 11) (ks := [11]) (body := gI) (E := EE ns t js as now far (some (.lst (js.map (alo t as now)))) none) (fun _ _ => rfl) (fun x => ⟨none, rfl⟩) (ds := [.non, .lst [], .tup [.tup []], .tup (js.map enc ++ [.non])]) (fun d hd => Dg ht (by
   simp only [List.mem_cons, List.not_mem_nil, or_false] at hd
   rcases hd with rfl | rfl | rfl | rfl
   · kernel_rfl
   · kernel_rfl
   · kernel_rfl
   · exact xn J)) y2
  rw [aw ((lE s3).trans l3)]
  refine cZ ?_
  have hu : al [.lst [.str "uk"]] = some (.exc 1) := ED (by kernel_rfl)
  have e : (bg [] (bY (aT (aa (fC (.int 0)) (aa (fC (.int 2)) ae)))) none (ag aG 5 (aa (ac 0) (aa (bq (aa (fC (.str "uk")) ae)) (aa (fC .non) (aa (fC .non) (aa (fC .non) ae))))))) (EE ns t js as now far (some (.lst (js.map (alo t as now)))) none y3) = some (.ok (.lst [rf 0, rf 0])) := by
   refine cA (fun i : Nat => Dv.int (i : Int)) (fun _ => rf 0) (l := [0, 2]) (by kernel_rfl) (by decide) fun i hi => ?_
   simp only [List.mem_cons, List.not_mem_nil, or_false] at hi
   rcases hi with rfl | rfl
   · exact iK rfl (T := .lst [.str "uk"]) (by kernel_rfl) rfl rfl rfl (iQ (w := 0) (t0 (DQ (EG hu))) (by simp))
   · exact iK rfl (T := .lst [.str "uk"]) (by kernel_rfl) rfl rfl rfl (iQ (w := 2) (t2 (EI hu)) (by simp))
  exact (bZ (x := .lst [rf 0, rf 0]) (y := .lst [rf 0, rf 0]) e (by kernel_rfl)).trans (by kernel_rfl)
 have lo : pX 10 [10] (bY (ac 2)) dh (EE ns t js as now far none none none) [] = some (.nx (EE ns t js as now far none none none) (js.map (alo t as now))) := by
  unfold pX
  rw [eZ (js := js) rfl]
  show (if imms (js.map enc) = true then il 10 [10] dh (js.map enc) (EE ns t js as now far none none none) [] else none) = _
  rw [if_pos (nV js)]
  exact lq ht ga (by omega) js [] none gj (by simp; omega)
 show (bI (some (.ok [])) fun ds => if ds.length ≤ 100000 then _ else none) = _
 show (if ([] : List Dv).length ≤ 100000 then _ else none) = _
 rw [if_pos (by decide)]
 show (match eU (pX 10 [10] (bY (ac 2)) dh) _ (EE ns t js as now far none none none) [] with | some (.nx ρ' ds') => some (Fl.nx (ρ'.set 9 (some (.lst ds')))) | some (.rt d) => some (Fl.rt d) | none => none) = _
 rw [mw lo]
 have en : xA 9 (aD (aR iH (ay (fC (.bl false))) (fun ρ => some (.nx ρ))) (aD (lr 11 [] (bY (aT (aa (f1 rL (fC (.int 1))) (aa (fC (.int 10000)) (aa (fC .non) (aa (fC (.bl true)) (aa (fC (.str "1")) ae))))))) fH) (aD (lr 11 [] (bY (aT (aa (aT ae) (aa (bq (aa (aT ae) ae)) (aa (bq (aa (fC .non) ae)) (aa (f2 uA (bq (aa (aT (aa (fC (.bl true)) (aa (fC (.str "a.b")) (aa (fC (.str "/")) (aa (fC .non) ae))))) ae)) (fC (.int 10))) ae)))))) gH) (aD (lr 11 [11] (bY (aT (aa (fC .non) (aa (bq ae) (aa (aT (aa (aT ae) ae)) (aa (f2 cC (ac 2) (aT (aa (fC .non) ae))) ae)))))) gI) (ay jR))))) (EE ns t js as now far none none none) (js.map (alo t as now)) = some (.rt (.bl true)) := xq fin
 rw [en]
end G
namespace G
open PySem PySem.Spec PyProof.Rows L2 FD
theorem walk {l : PySem.W.OpenLaw} {q : Program} {loose : List Str} {XP : (Str → Option Value) → Heap → Prop} {YP : World → Heap → Prop} {d : DefRec} {K : Params → PySem.W.Frag} (hn : l.most = some 63) (hdf : d.params.defaults = [])
 (hY : ∀ (w : World) (h : Heap), YP w h → (K w.params).In h)
 (F : ∀ (w : World) (mg : Str → Option Value) (fa : Addr) (h : Heap), (K w.params).In h → h.Ns mainGlobals mg → mg d.name = some (.ref fa) →
   ∃ fd : FuncData, (∀ (s : Shared) (u : Value), BindsTo s fd ⟨[u], []⟩ [("_law_script", u)]) ∧ ∀ base : Heap, (K w.params).In base → base.Ns mainGlobals mg → FnOk l.prog w (K w.params) mg base CX0 10 fa fd ["_law_script"] (spF (K w.params) rh 1)) :
 PySem.W.WalkO q loose XP YP l.row.toRowW d [] (fun f vs => PySem.call f vs) :=
 L2.walk_of (n := 63) (k := 10) (x := "_law_script") (CX := fun _ => CX0) (sp := fun w => spF (K w.params) rh 1) hn (by decide) hdf ⟨rfl, by decide, by decide⟩ hY F
  (fun _ _ a ns hl _ hS => ⟨[.scr ns], ⟨.ref a, [], rfl, ⟨a, rfl, hS⟩, rfl⟩, rfl, by rw [tU ns hl]; exact fun v H' _ r => r⟩) fun _ _ _ _ _ z => z
end G
open PySem PySem.W PyProof.Rows
set_option maxRecDepth 100000 in
theorem PySem.Challenge.cw_notejar_k33_looking_holds : PySem.Challenge.rw_notejar_k33_looking.Holds := by
 refine G.hld fun said => ?_
 refine PySem.W.holds_open (q := G.VQ) (loose := G.VL) (Xt := fun s => recOk [] s) (XP := fun _ _ => True) (Yf := Hook.obs (kHook G.KK G.KA G.KA_ok)) (Ya := Hook.val (kHook G.KK G.KA G.KA_ok)) (YP := Hook.says (kHook G.KK G.KA G.KA_ok)) (N := 6390) G.left (Hook.of (kHook G.KK G.KA G.KA_ok)) (Hook.keeps (kHook G.KK G.KA G.KA_ok)) (fun _ _ => trivial) (fun _ _ _ _ _ => trivial) (by rfl) (by rfl) (by rfl) (fun s e => recFacts_of e) (by rfl) (by first | assumption | decide +kernel) (by decide +kernel) G.hbr ?hw ?hc
 (case hw => w_witness2)
 refine G.walk (l := PySem.Challenge.rw_notejar_k33_looking) rfl rfl (fun w h Y => PySem.W.kIn_of Y) ?F
 case F =>
  intro w mg fa h KX hG hmg
  exact G.all_mk (C1 := 37) (C3 := 49) (C5 := 61) (C6 := 73) (CJ := 24) KX hG hmg (G.af 339 "law_notejar_k33_looking" 645 338) (G.af 346 "law_notejar_k33_looking" 645 345) (G.af 353 "law_notejar_k33_looking" 645 352) (G.af 365 "law_notejar_k33_looking" 645 364) (G.af 372 "law_notejar_k33_looking" 645 371) (G.af 382 "law_notejar_k33_looking" 645 381) (G.af 387 "law_notejar_k33_looking" 645 386) (G.af 392 "law_notejar_k33_looking" 645 391) (G.af 413 "law_notejar_k33_looking" 645 412) (G.af 406 "law_notejar_k33_looking" 645 405) (G.af 399 "law_notejar_k33_looking" 645 398) (G.af 427 "law_notejar_k33_looking" 645 426) (G.af 420 "law_notejar_k33_looking" 645 419) (G.af 377 "law_notejar_k33_looking" 645 376) (G.af 434 "law_notejar_k33_looking" 645 433) (G.af 358 "law_notejar_k33_looking" 645 357) (G.af 441 "law_notejar_k33_looking" 645 440) (G.af 137 "notejar.names" 296 136) (G.af 144 "notejar.names" 296 143) (G.af 151 "notejar.names" 296 150) (G.af 158 "notejar.names" 296 157) (G.af 165 "notejar.names" 296 164) (G.af 214 "notejar.asks" 412 213) (G.af 254 "notejar.notes" 495 253) (G.af 132 "notejar.names" 296 131) (G.af 261 "notejar.notes" 495 260) (G.af 179 "notejar.paths" 391 178) (G.af 268 "notejar.notes" 495 267) (G.af 332 "notejar.looking" 605 331) (G.af 80 "notejar.kinds" 271 79) (G.af 101 "notejar.names" 296 100) (G.af 106 "notejar.names" 296 105) (G.af 172 "notejar.paths" 391 171) (G.af 94 "notejar.kinds" 271 93) (G.af 207 "notejar.asks" 412 206) (G.af 322 "notejar.looking" 605 321) (G.af 247 "notejar.notes" 495 246) (G.af 283 "notejar.jars" 559 282) (G.af 278 "notejar.jars" 559 277) (G.af 87 "notejar.kinds" 271 86) (G.af 186 "notejar.asks" 412 185) (G.af 193 "notejar.asks" 412 192) (G.af 221 "notejar.giving" 465 220) (G.af 233 "notejar.giving" 465 232) (G.af 226 "notejar.giving" 465 225) (G.af 240 "notejar.notes" 495 239) (G.af 273 "notejar.jars" 559 272) (G.af 290 "notejar.jars" 559 289) (G.af 200 "notejar.asks" 412 199) (G.af 113 "notejar.names" 296 112) (G.af 118 "notejar.names" 296 117) (G.af 125 "notejar.names" 296 124) (G.af 327 "notejar.looking" 605 326) (G.af 297 "notejar.room" 588 296) (G.af 302 "notejar.room" 588 301) (G.af 312 "notejar.looking" 605 311) (G.af 307 "notejar.looking" 605 306) (G.af 317 "notejar.looking" 605 316) (G.af 448 "law_notejar_k33_looking" 645 447) (G.af 453 "law_notejar_k33_looking" 645 452) (by kernel_rfl) (by kernel_rfl)
#print axioms PySem.Challenge.cw_notejar_k33_looking_holds
