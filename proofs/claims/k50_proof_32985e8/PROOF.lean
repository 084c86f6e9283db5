import PyProof.Rows.All
import Wide.All
import OpenK.AllK
import Wide.FinOn
import Lean
import PyProof.EqAt
import PyProof.EqKinds
import PyProof.TupleCall
import PySem.SetTable
import PyProof.SetKind
import PyProof.TupleKey
import PyProof.DictKinds
import PyProof.Rows.SetFrom
import PyProof.ZipIter
import PyProof.Conv_int
import PyProof.FactsAll.str
import PyProof.EnumIter
import PyProof.Rows.SortStr
import PyProof.Rows.SortWalk
import PyProof.Rows.MinMaxN
import PyProof.ConsumeWalk
import PyProof.StrLawsTight
import PyProof.Rows.StrDigits
import PySem.Challenge.RW_notejar_k50_jars
set_option Elab.async false
namespace G
open PySem PySem.W PyProof.Rows
noncomputable def hT (i : Nat) : Stmt := PySem.Challenge.pw_notejar_k50_jars.main.body.getD i (.Pass ⟨0, 0, 0, 0⟩)
noncomputable def hA (s : Stmt) : Arguments := match s with
  | .FunctionDef _ a _ _ _ _ _ _ _ _ => a
  | _ => { posonlyargs := [], args := [], vararg := none, kwonlyargs := [], kw_defaults := [], kwarg := none, defaults := [] }
noncomputable def hB (s : Stmt) : List Stmt := match s with
  | .FunctionDef _ _ b _ _ _ _ _ _ _ => b
  | _ => []
noncomputable def hS (s : Stmt) : Scope := match s with
  | .FunctionDef _ _ _ _ _ _ sc _ _ _ => sc
  | _ => { kind := .function, names := [], isGenerator := false, isCoroutine := false }
noncomputable abbrev kS (s : String) (t : Nat) : Value := .str (Str.ofString s) t
noncomputable abbrev kR (a : Nat) : Value := .ref a
noncomputable abbrev kI (i : Int) (t : Nat) : Value := .int i t
noncomputable abbrev kE (P : Params) (s : String) (t : Nat) (v : Value) : DictEntry := ⟨PySem.PyData.keyHash P (Str.ofString s), .str (Str.ofString s) t, v⟩
noncomputable def kF (x : String) (i : Nat) (m : String) (t c : Nat) : Obj := Obj.mk (Value.type "function") Option.none (Data.func (fnOf (Str.ofString x) (Str.ofString x) (hA (hT i)) (hB (hT i)) (hS (hT i)) .none Value.none Value.none (kS m t) Option.none (kR c) Value.none)) #[]
noncomputable def kC (x : String) (a b c : Nat) (d e f : Int) (g : Nat) (h : Int) (i j : Nat) (k l : Int) (m : Nat) : Obj := Obj.mk (Value.type "code") Option.none (Data.fields #[kS x a, kS x b, kS "/claim/cut.py" c, kI d 0, kI e 0, kI 0 0, kI 0 0, kI f 0, kR g, Value.bool Bool.true, kI h 0, kR i, Value.none, Value.none, Value.none, kR j, kI k 0, kI l 0, kS "/claim/cut.py" m]) #[]
noncomputable def kD (x : String) (a b c : Nat) (d e f : Int) (g : Nat) (h : Int) (i u v j : Nat) (k l : Int) (m : Nat) : Obj := Obj.mk (Value.type "code") Option.none (Data.fields #[kS x a, kS x b, kS "/claim/cut.py" c, kI d 0, kI e 0, kI 0 0, kI 0 0, kI f 0, kR g, Value.bool Bool.true, kI h 0, kR i, Value.none, kR u, kR v, kR j, kI k 0, kI l 0, kS "/claim/cut.py" m]) #[]
noncomputable def KKa (P : Params) : Frag := [(2, Obj.mk Value.none Option.none (Data.dict #[]) #[]),
 (3, Obj.mk (Value.type "dict") Option.none (Data.dict #[kE P "__name__" 165 (kS "law_notejar_k50_jars" 551), kE P "__doc__" 166 Value.none, kE P "__package__" 167 Value.none, kE P "__loader__" 168 (Value.builtin "__main__.__loader__#opaque"), kE P "__spec__" 169 Value.none, kE P "__annotations__" 170 (kR 6), kE P "__builtins__" 171 (kR 4), kE P "__file__" 173 (kS "/claim/cut.py" 172), kE P "__cached__" 174 Value.none, kE P "JarError" 206 (kR 24), kE P "NoName" 222 (kR 37), kE P "NoTable" 238 (kR 49), kE P "NoPath" 254 (kR 61), kE P "NoAsk" 270 (kR 73), kE P "NoNote" 286 (kR 85), kE P "NoJar" 302 (kR 97), kE P "NoNumber" 318 (kR 109), kE P "is_text_of" 326 (kR 116), kE P "is_whole_number" 335 (kR 123), kE P "is_tuple_of" 343 (kR 130), kE P "FIGURES" 347 (kS "0123456789" 346), kE P "LABEL_SIGNS" 349 (kS "abcdefghijklmnopqrstuvwxyz0123456789-" 348), kE P "LONGEST_LABEL" 351 (kI 8 350), kE P "MOST_LABELS" 353 (kI 5 352), kE P "is_label" 360 (kR 137), kE P "is_name" 366 (kR 142), kE P "need_name" 373 (kR 149), kE P "lies_within" 381 (kR 156), kE P "PATH_SIGNS" 385 (kS "abcdefghijklmnopqrstuvwxyz0123456789-_./" 384), kE P "LONGEST_PATH" 387 (kI 20 386), kE P "is_path" 394 (kR 163), kE P "LAST_MOMENT" 398 (kI 9999 397), kE P "is_moment" 405 (kR 170), kE P "is_moment_or_none" 412 (kR 177), kE P "need_moment" 419 (kR 184), kE P "NOTE_NAME_SIGNS" 423 (kS "abcdefghijklmnopqrstuvwxyzABCDEFGHIJKLMNOPQRSTUVWXYZ0123456789-_" 422), kE P "LONGEST_NOTE_NAME" 425 (kI 10 424), kE P "NO_WORTH_SIGNS" 427 (kS ";,=" 426), kE P "LONGEST_WORTH" 429 (kI 12 428), kE P "is_note_name" 436 (kR 191), kE P "is_worth" 442 (kR 196), kE P "is_reach" 449 (kR 203), kE P "NOTE_NAME" 453 (kI 0 452), kE P "NOTE_WORTH" 455 (kI 1 454), kE P "NOTE_HOUSE" 457 (kI 2 456), kE P "NOTE_EXACT" 459 (kI 3 458), kE P "NOTE_PATH" 461 (kI 4 460), kE P "NOTE_ENDS" 463 (kI 5 462), kE P "NOTE_SAFE" 465 (kI 6 464), kE P "NOTE_REACH" 467 (kI 7 466), kE P "NOTE_MADE" 469 (kI 8 468), kE P "NOTE_USED" 471 (kI 9 470), kE P "NOTE_PARTS" 473 (kI 10 472), kE P "is_note" 480 (kR 210), kE P "key" 487 (kR 217), kE P "has_ended" 495 (kR 224), kE P "MOST_NOTES" 499 (kI 20 498), kE P "is_jar" 505 (kR 229), kE P "is_by_made" 511 (kR 234), kE P "has_no_key_twice" 517 (kR 239), kE P "need_jar" 524 (kR 246), kE P "swept" 532 (kR 253), kE P "without_ended" 538 (kR 258), kE P "forgotten" 544 (kR 263), kE P "put" 550 (kR 268), kE P "_law_cell" 560 (kR 275), kE P "_law_drawn" 570 (kR 282), kE P "_law_name" 579 (kR 289), kE P "_law_table" 585 (kR 294), kE P "_law_path" 594 (kR 301), kE P "_law_ask" 603 (kR 308), kE P "_law_ends" 609 (kR 313), kE P "_law_open" 615 (kR 318), kE P "_law_own" 621 (kR 323), kE P "_law_within" 629 (kR 330), kE P "_law_under" 637 (kR 337), kE P "_law_near" 645 (kR 344), kE P "_law_jar" 651 (kR 349), kE P "_law_refused" 659 (kR 356), kE P "_law_told" 669 (kR 363), kE P "_law_is_jar" 675 (kR 368), kE P "_law_many" 681 (kR 373), kE P "law" 687 (kR 378)] 83) #[]),
 (23, Obj.mk (Value.type "dict") Option.none (Data.dict #[kE P "__module__" 196 (kS "notejar.errors" 187), kE P "__firstlineno__" 200 (kI 2 199), kE P "__static_attributes__" 201 (kR 22), kE P "__weakref__" 203 (kR 25), kE P "__doc__" 204 Value.none] 3) #[]),
 (24, Obj.mk (Value.type "type") Option.none (Data.cls (PySem.ClassData.mk (Str.ofString "JarError") [Value.type "ValueError"] [kR 24, Value.type "ValueError", Value.type "Exception", Value.type "BaseException", Value.type "object"] 23 (Str.ofString "JarError") Bool.true [] [kR 37, kR 49, kR 61, kR 73, kR 85, kR 97, kR 109] Bool.false Option.none Bool.false)) #[Option.some (kR 15), Option.none, Option.some (kS "JarError" 189), Option.some (kS "JarError" 197), Option.some (Value.builtin "ValueError.__new__"), Option.some (Value.bool Bool.true)]),
 (36, Obj.mk (Value.type "dict") Option.none (Data.dict #[kE P "__module__" 214 (kS "notejar.errors" 187), kE P "__firstlineno__" 218 (kI 4 217), kE P "__static_attributes__" 219 (kR 35), kE P "__doc__" 220 Value.none] 2) #[]),
 (37, Obj.mk (Value.type "type") Option.none (Data.cls (PySem.ClassData.mk (Str.ofString "NoName") [kR 24] [kR 37, kR 24, Value.type "ValueError", Value.type "Exception", Value.type "BaseException", Value.type "object"] 36 (Str.ofString "NoName") Bool.true [] [] Bool.false Option.none Bool.false)) #[Option.some (kR 28), Option.none, Option.some (kS "NoName" 207), Option.some (kS "NoName" 215), Option.some (Value.builtin "ValueError.__new__"), Option.some (Value.bool Bool.true)]),
 (48, Obj.mk (Value.type "dict") Option.none (Data.dict #[kE P "__module__" 230 (kS "notejar.errors" 187), kE P "__firstlineno__" 234 (kI 6 233), kE P "__static_attributes__" 235 (kR 47), kE P "__doc__" 236 Value.none] 2) #[]),
 (49, Obj.mk (Value.type "type") Option.none (Data.cls (PySem.ClassData.mk (Str.ofString "NoTable") [kR 24] [kR 49, kR 24, Value.type "ValueError", Value.type "Exception", Value.type "BaseException", Value.type "object"] 48 (Str.ofString "NoTable") Bool.true [] [] Bool.false Option.none Bool.false)) #[Option.some (kR 40), Option.none, Option.some (kS "NoTable" 223), Option.some (kS "NoTable" 231), Option.some (Value.builtin "ValueError.__new__"), Option.some (Value.bool Bool.true)]),
 (60, Obj.mk (Value.type "dict") Option.none (Data.dict #[kE P "__module__" 246 (kS "notejar.errors" 187), kE P "__firstlineno__" 250 (kI 8 249), kE P "__static_attributes__" 251 (kR 59), kE P "__doc__" 252 Value.none] 2) #[]),
 (61, Obj.mk (Value.type "type") Option.none (Data.cls (PySem.ClassData.mk (Str.ofString "NoPath") [kR 24] [kR 61, kR 24, Value.type "ValueError", Value.type "Exception", Value.type "BaseException", Value.type "object"] 60 (Str.ofString "NoPath") Bool.true [] [] Bool.false Option.none Bool.false)) #[Option.some (kR 52), Option.none, Option.some (kS "NoPath" 239), Option.some (kS "NoPath" 247), Option.some (Value.builtin "ValueError.__new__"), Option.some (Value.bool Bool.true)]),
 (72, Obj.mk (Value.type "dict") Option.none (Data.dict #[kE P "__module__" 262 (kS "notejar.errors" 187), kE P "__firstlineno__" 266 (kI 10 265), kE P "__static_attributes__" 267 (kR 71), kE P "__doc__" 268 Value.none] 2) #[]),
 (73, Obj.mk (Value.type "type") Option.none (Data.cls (PySem.ClassData.mk (Str.ofString "NoAsk") [kR 24] [kR 73, kR 24, Value.type "ValueError", Value.type "Exception", Value.type "BaseException", Value.type "object"] 72 (Str.ofString "NoAsk") Bool.true [] [] Bool.false Option.none Bool.false)) #[Option.some (kR 64), Option.none, Option.some (kS "NoAsk" 255), Option.some (kS "NoAsk" 263), Option.some (Value.builtin "ValueError.__new__"), Option.some (Value.bool Bool.true)]),
 (84, Obj.mk (Value.type "dict") Option.none (Data.dict #[kE P "__module__" 278 (kS "notejar.errors" 187), kE P "__firstlineno__" 282 (kI 12 281), kE P "__static_attributes__" 283 (kR 83), kE P "__doc__" 284 Value.none] 2) #[]),
 (85, Obj.mk (Value.type "type") Option.none (Data.cls (PySem.ClassData.mk (Str.ofString "NoNote") [kR 24] [kR 85, kR 24, Value.type "ValueError", Value.type "Exception", Value.type "BaseException", Value.type "object"] 84 (Str.ofString "NoNote") Bool.true [] [] Bool.false Option.none Bool.false)) #[Option.some (kR 76), Option.none, Option.some (kS "NoNote" 271), Option.some (kS "NoNote" 279), Option.some (Value.builtin "ValueError.__new__"), Option.some (Value.bool Bool.true)]),
 (96, Obj.mk (Value.type "dict") Option.none (Data.dict #[kE P "__module__" 294 (kS "notejar.errors" 187), kE P "__firstlineno__" 298 (kI 14 297), kE P "__static_attributes__" 299 (kR 95), kE P "__doc__" 300 Value.none] 2) #[]),
 (97, Obj.mk (Value.type "type") Option.none (Data.cls (PySem.ClassData.mk (Str.ofString "NoJar") [kR 24] [kR 97, kR 24, Value.type "ValueError", Value.type "Exception", Value.type "BaseException", Value.type "object"] 96 (Str.ofString "NoJar") Bool.true [] [] Bool.false Option.none Bool.false)) #[Option.some (kR 88), Option.none, Option.some (kS "NoJar" 287), Option.some (kS "NoJar" 295), Option.some (Value.builtin "ValueError.__new__"), Option.some (Value.bool Bool.true)]),
 (108, Obj.mk (Value.type "dict") Option.none (Data.dict #[kE P "__module__" 310 (kS "notejar.errors" 187), kE P "__firstlineno__" 314 (kI 16 313), kE P "__static_attributes__" 315 (kR 107), kE P "__doc__" 316 Value.none] 2) #[]),
 (109, Obj.mk (Value.type "type") Option.none (Data.cls (PySem.ClassData.mk (Str.ofString "NoNumber") [kR 24] [kR 109, kR 24, Value.type "ValueError", Value.type "Exception", Value.type "BaseException", Value.type "object"] 108 (Str.ofString "NoNumber") Bool.true [] [] Bool.false Option.none Bool.false)) #[Option.some (kR 100), Option.none, Option.some (kS "NoNumber" 303), Option.some (kS "NoNumber" 311), Option.some (Value.builtin "ValueError.__new__"), Option.some (Value.bool Bool.true)]),
 (115, kC "is_text_of" 321 322 323 19 4 3 112 181 113 114 324 19 325),
 (116, kF "is_text_of" 10 "notejar.kinds" 319 115),
 (122, kD "is_whole_number" 327 328 329 25 3 3 117 181 118 119 120 121 333 25 334),
 (123, kF "is_whole_number" 11 "notejar.kinds" 319 122),
 (129, kD "is_tuple_of" 336 337 338 29 2 3 124 181 125 126 127 128 341 29 342),
 (130, kF "is_tuple_of" 12 "notejar.kinds" 319 129),
 (136, kD "is_label" 354 355 356 36 1 3 131 181 132 133 134 135 358 36 359),
 (137, kF "is_label" 18 "notejar.names" 344 136),
 (141, kC "is_name" 361 362 363 40 1 3 138 181 139 140 364 40 365),
 (142, kF "is_name" 19 "notejar.names" 344 141),
 (148, kD "need_name" 367 368 369 47 1 3 143 181 144 145 146 147 371 47 372),
 (149, kF "need_name" 20 "notejar.names" 344 148),
 (155, kD "lies_within" 374 375 376 50 2 3 150 181 151 152 153 154 379 50 380),
 (156, kF "lies_within" 21 "notejar.names" 344 155),
 (162, kD "is_path" 388 389 390 55 1 3 157 181 158 159 160 161 392 55 393),
 (163, kF "is_path" 25 "notejar.paths" 382 162),
 (169, kD "is_moment" 399 400 401 59 1 3 164 181 165 166 167 168 403 59 404),
 (170, kF "is_moment" 28 "notejar.asks" 395 169),
 (176, kD "is_moment_or_none" 406 407 408 61 1 3 171 181 172 173 174 175 410 61 411),
 (177, kF "is_moment_or_none" 29 "notejar.asks" 395 176),
 (183, kD "need_moment" 413 414 415 63 1 3 178 181 179 180 181 182 417 63 418),
 (184, kF "need_moment" 30 "notejar.asks" 395 183),
 (190, kD "is_note_name" 430 431 432 71 1 3 185 181 186 187 188 189 434 71 435),
 (191, kF "is_note_name" 36 "notejar.giving" 420 190),
 (195, kC "is_worth" 437 438 439 73 1 3 192 181 193 194 440 73 441),
 (196, kF "is_worth" 37 "notejar.giving" 420 195),
 (202, kD "is_reach" 443 444 445 77 1 3 197 181 198 199 200 201 447 77 448)]
noncomputable def KKb (P : Params) : Frag := [(203, kF "is_reach" 38 "notejar.giving" 420 202),
 (209, kD "is_note" 474 475 476 91 1 3 204 181 205 206 207 208 478 91 479),
 (210, kF "is_note" 51 "notejar.notes" 450 209),
 (216, kD "key" 481 482 483 97 1 3 211 181 212 213 214 215 485 97 486),
 (217, kF "key" 52 "notejar.notes" 450 216),
 (223, kD "has_ended" 488 489 490 99 2 3 218 181 219 220 221 222 493 99 494),
 (224, kF "has_ended" 53 "notejar.notes" 450 223),
 (228, kC "is_jar" 500 501 502 103 1 3 225 181 226 227 503 103 504),
 (229, kF "is_jar" 56 "notejar.jars" 496 228),
 (233, kC "is_by_made" 506 507 508 109 1 3 230 181 231 232 509 109 510),
 (234, kF "is_by_made" 57 "notejar.jars" 496 233),
 (238, kC "has_no_key_twice" 512 513 514 111 1 3 235 181 236 237 515 111 516),
 (239, kF "has_no_key_twice" 58 "notejar.jars" 496 238),
 (245, kD "need_jar" 518 519 520 114 1 3 240 181 241 242 243 244 522 114 523),
 (246, kF "need_jar" 59 "notejar.jars" 496 245),
 (252, kD "swept" 525 526 527 117 2 3 247 181 248 249 250 251 530 117 531),
 (253, kF "swept" 60 "notejar.jars" 496 252),
 (257, kC "without_ended" 533 534 535 121 2 3 254 181 255 256 536 121 537),
 (258, kF "without_ended" 61 "notejar.jars" 496 257),
 (262, kC "forgotten" 539 540 541 123 2 3 259 181 260 261 542 123 543),
 (263, kF "forgotten" 62 "notejar.jars" 496 262),
 (267, kC "put" 545 546 547 127 2 3 264 181 265 266 548 127 549),
 (268, kF "put" 63 "notejar.jars" 496 267),
 (274, kD "_law_cell" 553 554 555 134 2 3 269 181 270 271 272 273 558 134 559),
 (275, kF "_law_cell" 65 "law_notejar_k50_jars" 551 274),
 (281, kD "_law_drawn" 561 562 563 138 3 3 276 181 277 278 279 280 568 138 569),
 (282, kF "_law_drawn" 66 "law_notejar_k50_jars" 551 281),
 (288, kD "_law_name" 571 572 573 142 2 3 283 181 284 285 286 287 577 142 578),
 (289, kF "_law_name" 67 "law_notejar_k50_jars" 551 288),
 (300, kD "_law_path" 586 587 588 149 2 3 295 181 296 297 298 299 592 149 593),
 (301, kF "_law_path" 69 "law_notejar_k50_jars" 551 300),
 (329, kD "_law_within" 622 623 624 169 2 3 324 181 325 326 327 328 627 169 628),
 (330, kF "_law_within" 74 "law_notejar_k50_jars" 551 329),
 (348, kC "_law_jar" 646 647 648 177 3 3 345 181 346 347 649 177 650),
 (349, kF "_law_jar" 77 "law_notejar_k50_jars" 551 348),
 (355, kD "_law_refused" 652 653 654 195 1 3 350 181 351 352 353 354 657 195 658),
 (356, kF "_law_refused" 78 "law_notejar_k50_jars" 551 355),
 (362, kD "_law_told" 660 661 662 202 3 3 357 181 358 359 360 361 667 202 668),
 (363, kF "_law_told" 79 "law_notejar_k50_jars" 551 362),
 (367, kC "_law_is_jar" 670 671 672 207 1 3 364 181 365 366 673 207 674),
 (368, kF "_law_is_jar" 80 "law_notejar_k50_jars" 551 367),
 (372, kC "_law_many" 676 677 678 213 1 3 369 181 370 371 679 213 680),
 (373, kF "_law_many" 81 "law_notejar_k50_jars" 551 372),
 (377, kC "law" 682 683 684 215 1 3 374 181 375 376 685 215 686),
 (378, kF "law" 82 "law_notejar_k50_jars" 551 377)]
noncomputable def KK (P : Params) : Frag := KKa P ++ KKb P
noncomputable def KAa : List Addr := [2, 3, 23, 24, 36, 37, 48, 49, 60, 61, 72, 73, 84, 85, 96, 97, 108, 109, 115, 116, 122, 123, 129, 130, 136, 137, 141, 142, 148, 149, 155, 156, 162, 163, 169, 170, 176, 177, 183, 184, 190, 191, 195, 196, 202]
noncomputable def KAb : List Addr := [203, 209, 210, 216, 217, 223, 224, 228, 229, 233, 234, 238, 239, 245, 246, 252, 253, 257, 258, 262, 263, 267, 268, 274, 275, 281, 282, 288, 289, 300, 301, 329, 330, 348, 349, 355, 356, 362, 363, 367, 368, 372, 373, 377, 378]
noncomputable def KA : List Addr := KAa ++ KAb
theorem KA_ok (P : Params) : KA = (KK P).map (·.1) := by kernel_rfl
noncomputable def VQ : Program := view PySem.Challenge.pw_notejar_k50_jars [82]
noncomputable def VL : List Str := [Str.ofString "JarError", Str.ofString "NoName", Str.ofString "NoTable", Str.ofString "NoPath", Str.ofString "NoAsk", Str.ofString "NoNote", Str.ofString "NoJar", Str.ofString "NoNumber", Str.ofString "is_text_of", Str.ofString "is_whole_number", Str.ofString "is_tuple_of", Str.ofString "FIGURES", Str.ofString "LABEL_SIGNS", Str.ofString "LONGEST_LABEL", Str.ofString "MOST_LABELS", Str.ofString "is_label", Str.ofString "is_name", Str.ofString "need_name", Str.ofString "lies_within", Str.ofString "PATH_SIGNS", Str.ofString "LONGEST_PATH", Str.ofString "is_path", Str.ofString "LAST_MOMENT", Str.ofString "is_moment", Str.ofString "is_moment_or_none", Str.ofString "need_moment", Str.ofString "NOTE_NAME_SIGNS", Str.ofString "LONGEST_NOTE_NAME", Str.ofString "NO_WORTH_SIGNS", Str.ofString "LONGEST_WORTH", Str.ofString "is_note_name", Str.ofString "is_worth", Str.ofString "is_reach", Str.ofString "NOTE_NAME", Str.ofString "NOTE_WORTH", Str.ofString "NOTE_HOUSE", Str.ofString "NOTE_EXACT", Str.ofString "NOTE_PATH", Str.ofString "NOTE_ENDS", Str.ofString "NOTE_SAFE", Str.ofString "NOTE_REACH", Str.ofString "NOTE_MADE", Str.ofString "NOTE_USED", Str.ofString "NOTE_PARTS", Str.ofString "is_note", Str.ofString "key", Str.ofString "has_ended", Str.ofString "MOST_NOTES", Str.ofString "is_jar", Str.ofString "is_by_made", Str.ofString "has_no_key_twice", Str.ofString "need_jar", Str.ofString "swept", Str.ofString "without_ended", Str.ofString "forgotten", Str.ofString "put", Str.ofString "_law_cell", Str.ofString "_law_drawn", Str.ofString "_law_name", Str.ofString "_law_table", Str.ofString "_law_path", Str.ofString "_law_ask", Str.ofString "_law_ends", Str.ofString "_law_open", Str.ofString "_law_own", Str.ofString "_law_within", Str.ofString "_law_under", Str.ofString "_law_near", Str.ofString "_law_jar", Str.ofString "_law_refused", Str.ofString "_law_told", Str.ofString "_law_is_jar", Str.ofString "_law_many"]
theorem both {α β γ : Type} {o : Option α} {f : α → β} {g : α → γ} {a : β} {b : γ} (h1 : o.map f = some a) (h2 : o.map g = some b) : o.map (fun s => (f s, g s)) = some (a, b) := by
  cases o with
  | none => cases h1
  | some x => cases h1; cases h2; rfl
set_option maxRecDepth 100000 in
set_option maxHeartbeats 0 in
theorem left1 (w : World) : (openEnds treeTable PySem.Challenge.pw_notejar_k50_jars w 6494).map (openSeen VQ VL (importedModules PySem.Challenge.pw_notejar_k50_jars.main.body) (fun s => recOk [] s) true) = some (openGood VQ VL) := by kernel_rfl
set_option maxRecDepth 100000 in
set_option maxHeartbeats 0 in
theorem left2a (w : World) : (openEnds treeTable PySem.Challenge.pw_notejar_k50_jars w 6494).map (fun s => KAa.map s.heap.get?) = some ((KKa w.params).map fun p => some p.2) := by kernel_rfl
set_option maxRecDepth 100000 in
set_option maxHeartbeats 0 in
theorem left2b (w : World) : (openEnds treeTable PySem.Challenge.pw_notejar_k50_jars w 6494).map (fun s => KAb.map s.heap.get?) = some ((KKb w.params).map fun p => some p.2) := by kernel_rfl
theorem both_app {α β γ : Type} {o : Option α} {f : α → β → γ} {A B : List β} {X Y : List γ} (h1 : o.map (fun s => A.map (f s)) = some X) (h2 : o.map (fun s => B.map (f s)) = some Y) : o.map (fun s => (A ++ B).map (f s)) = some (X ++ Y) := by
  cases o with
  | none => cases h1
  | some x => cases h1; cases h2; simp
theorem left2 (w : World) : (openEnds treeTable PySem.Challenge.pw_notejar_k50_jars w 6494).map (fun s => KA.map s.heap.get?) = some ((KK w.params).map fun p => some p.2) := by
  show (openEnds treeTable PySem.Challenge.pw_notejar_k50_jars w 6494).map (fun s => (KAa ++ KAb).map s.heap.get?) = some ((KKa w.params ++ KKb w.params).map fun p => some p.2)
  rw [List.map_append]
  exact both_app (f := fun s : Shared => s.heap.get?) (left2a w) (left2b w)
theorem left : LeftO PySem.Challenge.pw_notejar_k50_jars VQ VL (fun s => recOk [] s) (Hook.obs (kHook KK KA KA_ok)) (Hook.val (kHook KK KA KA_ok)) 6494 := fun w => both (left1 w) (left2 w)
end G
set_option Elab.async false
set_option linter.all false
set_option maxRecDepth 100000
namespace L2
open PySem PySem.Spec PyProof.Rows
abbrev Key := Sum Int Str
def keyIs : Key → Value → Bool
  | .inl k, v => Value.isInt k v
  | .inr x, v => Value.isStrOf x v
def keyH (w : World) : Key → Int
  | .inl k => hashInt k
  | .inr x => hashStr w x
theorem keyIs_shape : ∀ {k : Key} {v : Value}, keyIs k v = true → (∃ i t, k = Sum.inl i ∧ v = Value.int i t) ∨ (∃ x t, k = Sum.inr x ∧ v = Value.str x t)
  | .inl i, v, h => by
    obtain ⟨t, e⟩ := Value.isInt_shape (k := i) (v := v) h
    exact .inl ⟨i, t, rfl, e⟩
  | .inr x, v, h => by
    obtain ⟨t, e⟩ := Value.isStrOf_shape (x := x) (v := v) h
    exact .inr ⟨x, t, rfl, e⟩
theorem key_ll (a b : Int) : decide ((Sum.inl a : Key) = Sum.inl b) = (a == b) := by
  by_cases e : a = b
  · subst e; simp
  · have h : ¬ (Sum.inl a : Key) = Sum.inl b := fun q => e (Sum.inl.inj q)
    rw [decide_eq_false h]
    exact (beq_eq_false_iff_ne.mpr e).symm
theorem key_rr (a b : Str) : decide ((Sum.inr a : Key) = Sum.inr b) = decide (a = b) := by
  by_cases e : a = b
  · subst e; simp
  · have h : ¬ (Sum.inr a : Key) = Sum.inr b := fun q => e (Sum.inr.inj q)
    rw [decide_eq_false h, decide_eq_false e]
theorem key_lr (a : Int) (b : Str) : decide ((Sum.inl a : Key) = Sum.inr b) = false := decide_eq_false (fun q => nomatch q)
theorem key_rl (a : Str) (b : Int) : decide ((Sum.inr a : Key) = Sum.inl b) = false := decide_eq_false (fun q => nomatch q)
def mixKind (prog : Program) (w : World) : PySem.KeyKind prog w Key where
  is := keyIs
  hash := keyH w
  inj := fun v a b ha hb => by
    rcases keyIs_shape ha with ⟨i, t, rfl, rfl⟩ | ⟨x, t, rfl, rfl⟩
    · rcases keyIs_shape hb with ⟨j, u, rfl, e⟩ | ⟨y, u, rfl, e⟩
      · injection e with e1 _; rw [e1]
      · exact nomatch e
    · rcases keyIs_shape hb with ⟨j, u, rfl, e⟩ | ⟨y, u, rfl, e⟩
      · exact nomatch e
      · injection e with e1 _; rw [e1]
  byValue := fun k v h => by
    rcases keyIs_shape h with ⟨i, t, rfl, rfl⟩ | ⟨x, t, rfl, rfl⟩ <;> rfl
  pyHash := fun hv h => by
    rcases keyIs_shape hv with ⟨i, t, rfl, rfl⟩ | ⟨x, t, rfl, rfl⟩
    · exact wpAny_pyHash_int h
    · exact wpAny_pyHash_str h
  eqBool := fun hu hv h => by
    rcases keyIs_shape hu with ⟨i, t, rfl, rfl⟩ | ⟨x, t, rfl, rfl⟩
    · rcases keyIs_shape hv with ⟨j, u, rfl, rfl⟩ | ⟨y, u, rfl, rfl⟩
      · rw [key_ll] at h; exact wpAny_eqBool_int h
      · rw [key_lr] at h; exact SeqAt.EqAt.int_str i t y u _ _ _ _ h
    · rcases keyIs_shape hv with ⟨j, u, rfl, rfl⟩ | ⟨y, u, rfl, rfl⟩
      · rw [key_rl] at h; exact SeqAt.EqAt.str_int x t j u _ _ _ _ h
      · rw [key_rr] at h; exact wpAny_eqBool_str h
  «strs» := fun k x t v h => by
    rcases keyIs_shape h with ⟨i, u, rfl, e⟩ | ⟨y, u, rfl, e⟩
    · exact nomatch e
    · injection e with e1 _
      subst e1
      cases v <;> rfl
end L2
namespace L2
open PySem PySem.Spec PyProof.Rows
inductive V where
  | non | bl (b : Bool) | int (i : Int) | str (x : Str) | byt (b : Array UInt8) | flt (b : UInt64) | ref (a : Addr) | ty (n : String)
  deriving DecidableEq
def RelV : V → Value → Prop
  | .non, u => u = Value.none
  | .bl b, u => u = Value.bool b
  | .int i, u => ∃ t, u = Value.int i t
  | .str x, u => ∃ t, u = Value.str x t
  | .byt b, u => ∃ t, u = Value.bytes b t
  | .flt b, u => ∃ t, u = Value.float b t
  | .ref a, u => u = Value.ref a
  | .ty n, u => u = Value.type n
abbrev Vals : List V → List Value → Prop := Paired RelV
theorem Vals.length {xs : List V} {us : List Value} (r : Vals xs us) : xs.length = us.length := Paired.length r
theorem Vals.get : ∀ {xs : List V} {us : List Value} {i : Nat} {x : V}, Vals xs us → xs[i]? = some x → ∃ u, us[i]? = some u ∧ RelV x u
  | _, _, _, _, .nil, e => by simp at e
  | _, _, 0, _, .cons r _, e => by simp at e; subst e; exact ⟨_, rfl, r⟩
  | _, _, i + 1, x, .cons _ t, e => by
    obtain ⟨u, h1, h2⟩ := Vals.get (i := i) (x := x) t (by simpa using e)
    exact ⟨u, by simpa using h1, h2⟩
theorem Vals.set {x : V} {u : Value} (r : RelV x u) : ∀ {xs : List V} {us : List Value} (i : Nat), Vals xs us → Vals (xs.set i x) (us.set i u)
  | _, _, _, .nil => .nil
  | _, _, 0, .cons _ t => .cons r t
  | _, _, i + 1, .cons q t => .cons q (Vals.set r i t)
theorem Vals.append : ∀ {xs ys : List V} {us ws : List Value}, Vals xs us → Vals ys ws → Vals (xs ++ ys) (us ++ ws)
  | _, _, _, _, .nil, s => s
  | _, _, _, _, .cons r t, s => .cons r (Vals.append t s)
theorem Vals.take : ∀ {xs : List V} {us : List Value} (n : Nat), Vals xs us → Vals (xs.take n) (us.take n)
  | _, _, 0, _ => .nil
  | _, _, _ + 1, .nil => .nil
  | _, _, n + 1, .cons r t => .cons r (Vals.take n t)
theorem Vals.drop : ∀ {xs : List V} {us : List Value} (n : Nat), Vals xs us → Vals (xs.drop n) (us.drop n)
  | _, _, 0, r => r
  | _, _, _ + 1, .nil => .nil
  | _, _, n + 1, .cons _ t => Vals.drop n t
theorem Vals.none_of : ∀ {xs : List V} {us : List Value} {i : Nat}, Vals xs us → xs[i]? = none → us[i]? = none := fun {xs us i} r e => by
  have h1 := r.length
  have h2 : xs.length ≤ i := List.getElem?_eq_none_iff.mp e
  exact List.getElem?_eq_none_iff.mpr (by omega)
def RelO : Option V → Option Value → Prop
  | some v, some u => RelV v u
  | none, none => True
  | _, _ => False
def KV {κ : Type} : List (κ × V) → List (κ × Value) → Prop := Paired fun (p : κ × V) (q : κ × Value) => p.1 = q.1 ∧ RelV p.2 q.2
def kV : Key → V
  | .inl i => .int i
  | .inr x => .str x
inductive HO where
  | lst (xs : List V)
  | tup (xs : List V)
  | dK (kvs : List (Key × V)) | dT (kvs : List (List Key × V))
  | set (S : Int → Bool) (n : Nat)
  | ins (C dx : Addr) (fs : List (Str × V))
  | own (x : Addr)
  | xd (fs : List (Str × V))
  | met (f x : Addr)
  | rng (lo hi : Int)
  | frz (o : Obj) (u : HO)
  | tbl (ps : Array Value)
  | ext (φ : Heap → Prop)
abbrev Hp := Addr → Option HO
def upd (H : Hp) (a : Addr) (o : HO) : Hp := fun b => if b = a then some o else H b
theorem upd_same {H : Hp} {a : Addr} {o : HO} : upd H a o a = some o := by unfold upd; rw [if_pos rfl]
theorem upd_ne {H : Hp} {a b : Addr} {o : HO} (h : b ≠ a) : upd H a o b = H b := by unfold upd; rw [if_neg h]
theorem upd_upd {H : Hp} {a : Addr} {o u : HO} : upd (upd H a o) a u = upd H a u := by
  funext b; unfold upd; split <;> rfl
theorem ne_of_none {H : Hp} {a b : Addr} {o : HO} (h : H a = some o) (h' : H b = none) : a ≠ b := by
  intro e; subst e; rw [h] at h'; cases h'
section
variable (P : Program) (w : World)
def ObjOk (H : Hp) (h : Heap) (a : Addr) : HO → Prop
  | .lst xs => xs.length ≤ sizeLine ∧ ∃ (its : List Value) (n : Nat), Vals xs its ∧ h.get? a = some { cls := .type "list", data := .seq its.toArray n }
  | .tup xs => xs.length ≤ sizeLine ∧ ∃ its : List Value, Vals xs its ∧ IsTup h a its.toArray
  | .dK kvs => kvs.length ≤ sizeLine ∧ (a == sysModules) = false ∧ ∃ vs, KV kvs vs ∧ h.DictOf (mixKind P w) a vs
  | .dT kvs => kvs.length ≤ sizeLine ∧ (a == sysModules) = false ∧ ∃ xs : List (List Key × Addr × Value),
      Paired (fun (p : List Key × V) (q : List Key × Addr × Value) => p.1 = q.1 ∧ H q.2.1 = some (.tup (p.1.map kV)) ∧ RelV p.2 q.2.2) kvs xs ∧
      ∃ o es ep, h.get? a = some o ∧ o.ExactDict ∧ o.data = .dict es ep ∧ es.toList = xs.map (entryOfKey (tupleKind (mixKind P w))) ∧ (xs.map (·.1)).Nodup
  | .set S n => h.SetOf (intKind P w) a S n
  | .ins C dx fs => H dx = some (.own a) ∧ fs.length ≤ 1000 ∧ dx ≠ a ∧ h.get? a = some (PySem.W.instObj C dx) ∧
      ∃ mA, h.Ns1 dx mA ∧ (∀ f, RelO (fs.lookup f) (mA f)) ∧ PySem.Within mA (fs.map (·.1))
  | .own _ => ∃ o, h.get? a = some o
  | .xd fs => ∃ mA, h.Ns1 a mA ∧ ∀ f, RelO (fs.lookup f) (mA f)
  | .rng lo hi => ∃ t u v, h.get? a = some { cls := .type "range", data := .fields #[.int lo t, .int hi u, .int 1 v] }
  | .frz o u => h.get? a = some o ∧ ObjOk H h a u
  | .tbl ps => h.get? a = some { cls := .none, data := .fields ps }
  | .met f x => h.get? a = some (PySem.W.methodObj (.ref f) (.ref x))
  | .ext φ => φ h ∧ (∃ o, h.get? a = some o) ∧ ∀ h1 h2 : Heap, φ h1 → (∀ o, h1.get? a = some o → h2.get? a = some o) → φ h2
def HOk (H : Hp) (h : Heap) : Prop := ∀ a o, H a = some o → ObjOk P w H h a o
end
section
variable {P : Program} {w : World} {H H' : Hp} {h h' : Heap} {a : Addr} {o : HO}
theorem ObjOk.lt (x : ObjOk P w H h a o) : a < h.objs.size := by
  cases o with
  | lst xs => obtain ⟨_, _, _, _, e⟩ := x; exact Heap.lt_size e
  | tup xs => obtain ⟨_, _, _, p⟩ := x; exact p.lt
  | dK kvs => obtain ⟨_, _, _, _, o, _, _, e, _⟩ := x; exact Heap.lt_size e
  | dT kvs => obtain ⟨_, _, _, _, o, _, _, e, _⟩ := x; exact Heap.lt_size e
  | set S n => obtain ⟨o, _, _, _, e, _⟩ := x; exact Heap.lt_size e
  | ins C dx fs => obtain ⟨_, _, _, e, _⟩ := x; exact Heap.lt_size e
  | own y => obtain ⟨_, e⟩ := x; exact Heap.lt_size e
  | xd fs => obtain ⟨_, ⟨_, _, _, e, _⟩, _⟩ := x; exact Heap.lt_size e
  | rng lo hi => obtain ⟨_, _, _, e⟩ := x; exact Heap.lt_size e
  | frz ob u => obtain ⟨e, _⟩ := x; exact Heap.lt_size e
  | tbl ps => exact Heap.lt_size (show h.get? a = some _ from x)
  | met f y => exact Heap.lt_size (show h.get? a = some _ from x)
  | ext φ => obtain ⟨_, ⟨_, e⟩, _⟩ := x; exact Heap.lt_size e
theorem Paired.mapP {α β : Type} {F G : α → β → Prop} : ∀ {l₁ : List α} {l₂ : List β}, Paired F l₁ l₂ → (∀ a b, F a b → G a b) → Paired G l₁ l₂
  | _, _, .nil, _ => .nil
  | _, _, .cons r t, f => .cons (f _ _ r) (Paired.mapP t f)
theorem ObjOk.stay (x : ObjOk P w H h a o) (k : ∀ b u, (b = a ∨ H b = some (.own a)) → h.get? b = some u → h'.get? b = some u)
    (ho : ∀ b, H b = some (.own a) → H' b = some (.own a)) (ht : ∀ b xs, H b = some (.tup xs) → H' b = some (.tup xs)) : ObjOk P w H' h' a o := by
  induction o with
  | lst xs => obtain ⟨z, its, n, r, e⟩ := x; exact ⟨z, its, n, r, k _ _ (.inl rfl) e⟩
  | tup xs => obtain ⟨z, its, r, ob, e, c⟩ := x; exact ⟨z, its, r, ob, k _ _ (.inl rfl) e, c⟩
  | dK kvs => obtain ⟨z, y, vs, r, ob, es, ep, e, c⟩ := x; exact ⟨z, y, vs, r, ob, es, ep, k _ _ (.inl rfl) e, c⟩
  | dT kvs =>
    obtain ⟨z, y, xs, r, ob, es, ep, e, c⟩ := x
    exact ⟨z, y, xs, Paired.mapP r fun p q z => ⟨z.1, ht _ _ z.2.1, z.2.2⟩, ob, es, ep, k _ _ (.inl rfl) e, c⟩
  | set S n => obtain ⟨ob, es, ep, t, e, c⟩ := x; exact ⟨ob, es, ep, t, k _ _ (.inl rfl) e, c⟩
  | ins C dx fs =>
    obtain ⟨d, z, ne, e, mA, ⟨od, es, ep, e2, c⟩, r⟩ := x
    exact ⟨ho _ d, z, ne, k _ _ (.inl rfl) e, mA, ⟨od, es, ep, k _ _ (.inr d) e2, c⟩, r⟩
  | own y => obtain ⟨ob, e⟩ := x; exact ⟨ob, k _ _ (.inl rfl) e⟩
  | xd fs => obtain ⟨mA, ⟨od, es, ep, e, c⟩, r⟩ := x; exact ⟨mA, ⟨od, es, ep, k _ _ (.inl rfl) e, c⟩, r⟩
  | rng lo hi => obtain ⟨t, u, v, e⟩ := x; exact ⟨t, u, v, k _ _ (.inl rfl) e⟩
  | frz ob u ih => obtain ⟨e, q⟩ := x; exact ⟨k _ _ (.inl rfl) e, ih q⟩
  | tbl ps =>
    have e : h.get? a = some { cls := .none, data := .fields ps } := x
    show h'.get? a = some { cls := .none, data := .fields ps }
    exact k a _ (.inl rfl) e
  | met f y =>
    have e : h.get? a = some (PySem.W.methodObj (.ref f) (.ref y)) := x
    show h'.get? a = some (PySem.W.methodObj (.ref f) (.ref y))
    exact k a _ (.inl rfl) e
  | ext φ => obtain ⟨p, ⟨o, e⟩, st⟩ := x; exact ⟨st _ _ p fun o q => k _ _ (.inl rfl) q, ⟨o, k _ _ (.inl rfl) e⟩, st⟩
theorem HOk.lt (x : HOk P w H h) (e : H a = some o) : a < h.objs.size := (x a o e).lt
theorem HOk.fresh (x : HOk P w H h) (e : h.objs.size ≤ a) : H a = none := by
  cases q : H a with
  | none => rfl
  | some u => exact absurd (Nat.lt_of_lt_of_le (x.lt q) e) (Nat.lt_irrefl _)
theorem HOk.kept (x : HOk P w H h) (k : ∀ b u, h.get? b = some u → h'.get? b = some u) : HOk P w H h' := fun a o e =>
  (x a o e).stay (fun b u _ q => k b u q) (fun _ q => q) fun _ _ q => q
theorem HOk.laid (x : HOk P w H h) (k : ∀ b u, h.get? b = some u → h'.get? b = some u) (hp : h.objs.size ≤ a) (new : ObjOk P w (upd H a o) h' a o) : HOk P w (upd H a o) h' := fun b u e => by
  have hn := x.fresh hp
  by_cases hb : b = a
  · subst hb; rw [upd_same] at e; cases e; exact new
  · rw [upd_ne hb] at e
    exact (x b u e).stay (fun c v _ q => k c v q) (fun c q => by rw [upd_ne (ne_of_none q hn)]; exact q) fun c xs q => by rw [upd_ne (ne_of_none q hn)]; exact q
end
def Rd (H : Hp) (a : Addr) (u : HO) : Prop := H a = some u ∨ ∃ o, H a = some (.frz o u)
theorem Rd.of {H : Hp} {a : Addr} {u : HO} (h : H a = some u) : Rd H a u := .inl h
theorem Rd.ok {P : Program} {w : World} {H : Hp} {h : Heap} {a : Addr} {u : HO} (r : Rd H a u) (x : HOk P w H h) : ObjOk P w H h a u := by
  rcases r with r | ⟨o, r⟩
  · exact x a u r
  · obtain ⟨_, q⟩ := x a _ r
    exact q
def Mut : Option HO → Prop
  | some (.lst _) => True
  | some (.dK _) => True
  | some (.dT _) => True
  | some (.set _ _) => True
  | some (.ins _ _ _) => True
  | some (.ext _) => True
  | _ => False
section
variable {P : Program} {w : World} {H : Hp} {h h' : Heap} {x e : Addr} {o' : HO}
theorem HOk.write (ok : HOk P w H h) (mu : Mut (H x)) (he : e = x ∨ H e = some (.own x)) (k : ∀ b u, b ≠ e → h.get? b = some u → h'.get? b = some u) (heo : ∃ u, h'.get? e = some u)
    (new : ObjOk P w (upd H x o') h' x o') : HOk P w (upd H x o') h' := fun b u q => by
  have nown : ∀ c y, H c = some (.own y) → c ≠ x := fun c y r z => by subst z; rw [r] at mu; exact mu
  have ntup : ∀ c xs, H c = some (.tup xs) → c ≠ x := fun c xs r z => by subst z; rw [r] at mu; exact mu
  by_cases hb : b = x
  · subst hb; rw [upd_same] at q; cases q; exact new
  · rw [upd_ne hb] at q
    by_cases hbe : b = e
    · have q' : H b = some (.own x) := by
        rcases he with z | z
        · exact absurd (hbe.trans z) hb
        · rw [hbe]; exact z
      rw [q] at q'; cases q'
      obtain ⟨v, hv⟩ := heo
      exact ⟨v, by rw [hbe]; exact hv⟩
    · refine (ok b u q).stay (fun c v hc r => k c v ?_ r) (fun c r => by rw [upd_ne (nown c b r)]; exact r) fun c xs r => by rw [upd_ne (ntup c xs r)]; exact r
      rcases hc with rfl | hc
      · exact hbe
      · rintro rfl
        rcases he with z | z
        · exact nown c b hc z
        · rw [hc] at z; cases z; exact hb rfl
end
structure Un (fs ex : List Addr) (H H' : Hp) (h h' : Heap) : Prop where
  keep : ∀ b o, h.get? b = some o → H b = none → b ∉ fs → b ∉ ex → h'.get? b = some o
  slot : ∀ b o, h.get? b = some o → H b = none → b ∈ fs → b ∉ ex → ∃ sl, h'.get? b = some { o with slots := sl }
  free : ∀ b o, h.get? b = some o → H b = none → b ∉ ex → H' b = none
  there : ∀ b o, h.get? b = some o → b ∉ ex → ∃ o', h'.get? b = some o'
  tups : ∀ b xs, H b = some (.tup xs) → H' b = some (.tup xs)
  frzs : ∀ b o u, H b = some (.frz o u) → H' b = some (.frz o u)
  tbls : ∀ b ps, H b = some (.tbl ps) → ∃ more, H' b = some (.tbl (ps ++ more))
section
variable {fs fs' ex ex' : List Addr} {H H1 H2 : Hp} {h h1 h2 h' : Heap} {a x e : Addr} {o : HO}
theorem Un.any (u : Un fs ex H H1 h h1) {b : Addr} {ob : Obj} (q : h.get? b = some ob) (n : H b = none) (hx : b ∉ ex) : ∃ sl, h1.get? b = some { ob with slots := sl } := by
  by_cases hb : b ∈ fs
  · exact u.slot b ob q n hb hx
  · exact ⟨ob.slots, u.keep b ob q n hb hx⟩
theorem Un.trans (a : Un fs ex H H1 h h1) (b : Un fs ex H1 H2 h1 h2) : Un fs ex H H2 h h2 where
  keep := fun c ob q n hc hx => b.keep c ob (a.keep c ob q n hc hx) (a.free c ob q n hx) hc hx
  slot := fun c ob q n hc hx => by
    obtain ⟨sl, e1⟩ := a.slot c ob q n hc hx
    obtain ⟨sl', e2⟩ := b.slot c _ e1 (a.free c ob q n hx) hc hx
    exact ⟨sl', e2⟩
  free := fun c ob q n hx => by
    obtain ⟨o', e1⟩ := a.there c ob q hx
    exact b.free c o' e1 (a.free c ob q n hx) hx
  there := fun c ob q hx => by
    obtain ⟨o', e1⟩ := a.there c ob q hx
    exact b.there c o' e1 hx
  tups := fun c xs q => b.tups c xs (a.tups c xs q)
  frzs := fun c ob xs q => b.frzs c ob xs (a.frzs c ob xs q)
  tbls := fun c ps q => by
    obtain ⟨m1, e1⟩ := a.tbls c ps q
    obtain ⟨m2, e2⟩ := b.tbls c _ e1
    exact ⟨m1 ++ m2, by rw [e2, Array.append_assoc]⟩
theorem Un.kept (k : ∀ b u, h.get? b = some u → h'.get? b = some u) : Un fs ex H H h h' :=
  ⟨fun b ob q _ _ _ => k b ob q, fun b ob q _ _ _ => ⟨ob.slots, k b ob q⟩, fun _ _ _ n _ => n, fun b ob q _ => ⟨ob, k b ob q⟩, fun _ _ q => q, fun _ _ _ q => q, fun _ ps q => ⟨#[], by rw [q]; simp⟩⟩
theorem Un.refl : Un fs ex H H h h := Un.kept fun _ _ q => q
theorem Un.laid (k : ∀ b u, h.get? b = some u → h'.get? b = some u) (hp : h.objs.size ≤ a) (hn : H a = none) : Un fs ex H (upd H a o) h h' where
  keep := fun b u q _ _ _ => k b u q
  slot := fun b u q _ _ _ => ⟨u.slots, k b u q⟩
  free := fun b u q n _ => by rw [upd_ne (Nat.ne_of_lt (Nat.lt_of_lt_of_le (Heap.lt_size q) hp))]; exact n
  there := fun b u q _ => ⟨u, k b u q⟩
  tups := fun b xs q => by rw [upd_ne (ne_of_none q hn)]; exact q
  frzs := fun b u xs q => by rw [upd_ne (ne_of_none q hn)]; exact q
  tbls := fun b ps q => ⟨#[], by rw [upd_ne (ne_of_none q hn), q]; simp⟩
theorem Un.write (mu : Mut (H x)) (he : e = x ∨ H e = some (.own x)) (k : ∀ b u, b ≠ e → h.get? b = some u → h'.get? b = some u) (heo : ∃ u, h'.get? e = some u) : Un fs ex H (upd H x o) h h' := by
  have hx : ∀ b, H b = none → b ≠ x := fun b n z => by subst z; rw [n] at mu; exact mu
  have hb : ∀ b, H b = none → b ≠ e := fun b n z => by
    subst z
    rcases he with r | r
    · exact hx b n r
    · rw [n] at r; cases r
  have hm : ∀ b u, H b = some u → ¬ Mut (some u) → b ≠ x := fun b u q nm z => by subst z; rw [q] at mu; exact nm mu
  refine ⟨fun b u q n _ _ => k b u (hb b n) q, fun b u q n _ _ => ⟨u.slots, k b u (hb b n) q⟩, fun b u q n _ => by rw [upd_ne (hx b n)]; exact n, fun b u q _ => ?_,
    fun b xs q => by rw [upd_ne (hm b _ q fun z => z)]; exact q, fun b u xs q => by rw [upd_ne (hm b _ q fun z => z)]; exact q, fun b ps q => ⟨#[], by rw [upd_ne (hm b _ q fun z => z), q]; simp⟩⟩
  by_cases hbe : b = e
  · subst hbe; exact heo
  · exact ⟨u, k b u hbe q⟩
theorem Un.mono (u : Un fs ex H H1 h h1) (hs : ∀ b ∈ fs, b ∈ fs') (hx : ∀ b ∈ ex, b ∈ ex') : Un fs' ex' H H1 h h1 :=
  ⟨fun b ob q n hb he => u.keep b ob q n (fun z => hb (hs b z)) fun z => he (hx b z), fun _ _ q n _ he => u.any q n fun z => he (hx _ z), fun b ob q n he => u.free b ob q n fun z => he (hx b z), fun b ob q he => u.there b ob q fun z => he (hx b z), u.tups, u.frzs, u.tbls⟩
end
def trk (h : Heap) (H : Hp) : List Addr := (List.range h.objs.size).filter fun a => (H a).isSome
def hidT (h : Heap) (H : Hp) : Heap := PySem.W.hideAll h (trk h H)
theorem hidT_size (h : Heap) (H : Hp) : (hidT h H).objs.size = h.objs.size := PySem.W.hideAll_size _ _
theorem hidT_get {h : Heap} {H : Hp} {b : Addr} {o : Obj} (e : h.get? b = some o) (n : H b = none) : (hidT h H).get? b = some o :=
  PySem.W.hideAll_get _ e fun hm => by
    have q : (H b).isSome = true := (List.mem_filter.mp hm).2
    rw [n] at q; simp at q
theorem of_hidT {h : Heap} {H : Hp} {b : Addr} {o : Obj} (e : (hidT h H).get? b = some o) : h.get? b = some o ∧ H b = none := by
  have e' : h.get? b = some o := PySem.W.of_hideAll (trk h H) e
  refine ⟨e', ?_⟩
  cases q : H b with
  | none => rfl
  | some x =>
    have hm : b ∈ trk h H := List.mem_filter.mpr ⟨List.mem_range.mpr (Heap.lt_size e'), by simp [q]⟩
    have z : (hidT h H).get? b = none := PySem.W.hideAll_none (trk h H) hm
    rw [z] at e; cases e
def allNews (g h : Heap) (L : Addr) : List (Addr × Obj) := (List.range h.objs.size).filterMap fun a => if a = L ∨ (g.get? a).isSome = true then none else (h.get? a).map fun o => (a, o)
def rest (g h : Heap) (L d : Addr) : List (Addr × Obj) := (allNews g h L).filter fun p => decide (p.1 ≠ d)
end L2
namespace L2
open PySem PySem.Spec PyProof.Rows
structure Mod (K : PySem.W.Frag) (mg : Str → Option Value) (base : Heap) : Prop where
  kin : K.In base
  glob : base.Ns mainGlobals mg
  blt : ∃ mb, base.Ns builtinsNs mb ∧ ∀ x : Str, x ≠ "__name__" → mb x = bootBuiltins x
  nolimit : base.NoLimit
structure Cx where
  prog : Program
  w : World
  K : PySem.W.Frag
  mg : Str → Option Value
  base : Heap
  A : Around
  N : List Str
  s₀ : Shared
  H₀ : Hp
  env : Env
  outer : List Env
  stack : List Env
  ex : List Addr
  fn : Str → Bool
  calm : Bool
  pn : List (Addr × Obj)
  xe : Value → Shared → Prop
def frs (l : List Env) : List Addr := l.filterMap (·.frame)
abbrev Cx.fs (X : Cx) : List Addr := frs X.outer
def Vis (sc : Scope) (x : Str) : Prop := sc.names.lookup x = some .local ∨ sc.names.lookup x = some .cell ∨ sc.names.lookup x = some .free
def Loc (sc : Scope) (x : Str) : Prop := sc.names.lookup x = some .local ∨ sc.names.lookup x = some .cell
def Look (env : Env) (h : Heap) (m : Str → Option Value) (x : Str) (u : Value) : Prop :=
  (env.kindOf x = some .local ∧ m x = some u) ∨ ((env.kindOf x = some .cell ∨ env.kindOf x = some .free) ∧ ∃ c, env.cells.lookup x = some c ∧ h.IsCell c (some u))
structure Cx.Ok (X : Cx) : Prop where
  mod : Mod X.K X.mg X.base
  kind : X.env.scope.kind = .function
  glob : X.env.globals = mainGlobals
  blt : X.env.builtins = builtinsNs
  above : X.s₀.heap.objs.size ≤ X.env.locals
  inj : ∀ x y c, X.env.cells.lookup x = some c → X.env.cells.lookup y = some c → x = y
  has : ∀ x, (X.env.kindOf x = some .cell ∨ X.env.kindOf x = some .free) → ∃ c, X.env.cells.lookup x = some c
  cab : ∀ x c, X.fn x = true → X.env.cells.lookup x = some c → X.s₀.heap.objs.size ≤ c
  hd : X.calm = true → X.A.handled = none
  frames : X.A.frames = some X.stack
  stk : X.stack = X.outer ∨ (X.stack = X.env :: X.outer ∧ X.env.frame = some X.env.locals)
  exf : ∀ b ∈ X.ex, b ≠ X.env.locals ∧ ∀ x c, X.env.cells.lookup x = some c → c ≠ b
  bs : ∀ b o, X.base.get? b = some o → X.s₀.heap.get? b = some o ∧ X.H₀ b = none
  bsz : X.base.objs.size ≤ X.s₀.heap.objs.size
  noex : ∀ b o, X.base.get? b = some o → b ∉ X.ex
  exfs : ∀ b ∈ X.ex, b ∉ X.fs
  funs : X.s₀.heap.FunFrames X.base X.outer
  frf : ∀ b ∈ X.fs, X.H₀ b = none
structure Inv (X : Cx) (pins : List (Addr × Obj)) (σ : List (Option V)) (H : Hp) (s : Shared) : Prop where
  ok : X.Ok
  os : s.os = X.s₀.os
  bare : AllBare s.gens
  base : Un X.fs X.ex X.H₀ H X.s₀.heap s.heap
  loc : ∃ m, s.heap.Ns X.env.locals m ∧ ∀ (i : Nat) (x : Str) (v : V), X.N[i]? = some x → σ[i]? = some (some v) → Vis X.env.scope x → ∃ u, RelV v u ∧ Look X.env s.heap m x u
  cell : ∀ x c, X.env.cells.lookup x = some c → ∃ v, s.heap.IsCell c v
  free : H X.env.locals = none
  freeC : ∀ x c, X.env.cells.lookup x = some c → H c = none
  pin : ∀ p ∈ X.pn ++ pins, s.heap.get? p.1 = some p.2 ∧ H p.1 = none ∧ p.1 ≠ X.env.locals ∧ p.1 ∉ X.fs ∧ ∀ v, p.2.data ≠ .cell v
  hok : HOk X.prog X.w H s.heap
  len : σ.length = X.N.length
section
variable {X : Cx} {pins : List (Addr × Obj)} {σ : List (Option V)} {H H' : Hp} {s : Shared} {h' : Heap}
theorem Cx.Ok.nofr (ok : X.Ok) {b : Addr} {o : Obj} (e : X.base.get? b = some o) : b ∉ X.fs := fun hb => by
  have := (ok.funs.mem hb).1
  rw [e] at this; cases this
theorem Inv.bs (I : Inv X pins σ H s) : ∀ b o, X.base.get? b = some o → s.heap.get? b = some o ∧ H b = none := fun b o e =>
  ⟨I.base.keep b o (I.ok.bs b o e).1 (I.ok.bs b o e).2 (I.ok.nofr e) (I.ok.noex b o e), I.base.free b o (I.ok.bs b o e).1 (I.ok.bs b o e).2 (I.ok.noex b o e)⟩
theorem Inv.bk (I : Inv X pins σ H s) : ∀ b o, X.base.get? b = some o → s.heap.get? b = some o := fun b o e => (I.bs b o e).1
theorem Inv.mod (I : Inv X pins σ H s) : Mod X.K X.mg X.base := I.ok.mod
theorem Inv.kIn (I : Inv X pins σ H s) : X.K.In s.heap := I.ok.mod.kin.keeps I.bk
theorem Inv.nolimit (I : Inv X pins σ H s) : s.heap.NoLimit := I.ok.mod.nolimit.keeps I.bk
theorem Inv.lt (I : Inv X pins σ H s) : X.env.locals < s.heap.objs.size := let ⟨_, hn, _⟩ := I.loc; hn.lt
theorem Inv.sz (I : Inv X pins σ H s) : X.s₀.heap.objs.size ≤ s.heap.objs.size := Nat.le_trans I.ok.above (Nat.le_of_lt I.lt)
theorem Inv.nofs (I : Inv X pins σ H s) {a : Addr} (h : s.heap.objs.size ≤ a) : a ∉ X.fs := fun hb => by
  obtain ⟨_, o, ho, _⟩ := I.ok.funs.mem hb
  exact absurd (Nat.lt_of_lt_of_le (Heap.lt_size ho) (Nat.le_trans I.sz h)) (Nat.lt_irrefl _)
theorem Inv.cne (I : Inv X pins σ H s) : ∀ x c, X.env.cells.lookup x = some c → c ≠ X.env.locals := fun x c e z => by
  obtain ⟨v, o, ho, hd⟩ := I.cell x c e
  obtain ⟨m, ⟨o', es, ep, ho', hd', _⟩, _⟩ := I.loc
  rw [z, ho'] at ho; cases ho; rw [hd'] at hd; cases hd
theorem Inv.funs (I : Inv X pins σ H s) : s.heap.FunFrames X.base X.outer := by
  have all : ∀ (l : List Env), (∀ b ∈ frs l, b ∈ X.fs) → X.s₀.heap.FunFrames X.base l → s.heap.FunFrames X.base l := by
    intro l
    induction l with
    | nil => intro _ _; trivial
    | cons env r ih =>
      intro hs hl
      obtain ⟨hk, ⟨L, o, hf, hn, ho, hd⟩, hr⟩ := hl
      have hL : L ∈ X.fs := hs L (by unfold frs; rw [List.filterMap_cons, hf]; exact List.mem_cons_self)
      obtain ⟨sl, e⟩ := I.base.slot L o ho (I.ok.frf L hL) hL fun z => I.ok.exfs L z hL
      exact ⟨hk, ⟨L, _, hf, hn, e, hd⟩, ih (fun b hb => hs b (by unfold frs; rw [List.filterMap_cons, hf]; exact List.mem_cons_of_mem _ hb)) hr⟩
  exact all X.outer (fun _ hb => hb) I.ok.funs
theorem Inv.stack (I : Inv X pins σ H s) : s.heap.FunFrames X.base X.stack := by
  rcases I.ok.stk with e | ⟨e, hf⟩
  · rw [e]; exact I.funs
  · rw [e]
    obtain ⟨m, hn, _⟩ := I.loc
    refine .cons (by rw [I.ok.kind]; decide) hf hn ?_ I.funs
    exact Heap.get?_none_of_le (Nat.le_trans I.ok.bsz I.ok.above)
theorem Inv.stkSub (I : Inv X pins σ H s) : ∀ b ∈ frs X.stack, b ∈ X.env.locals :: X.fs := fun b hb => by
  rcases I.ok.stk with e | ⟨e, hf⟩
  · rw [e] at hb; exact List.mem_cons_of_mem _ hb
  · rw [e] at hb
    unfold frs at hb
    rw [List.filterMap_cons, hf] at hb
    exact hb
theorem Inv.stkFree (I : Inv X pins σ H s) : ∀ b ∈ frs X.stack, H b = none := fun b hb => by
  rcases List.mem_cons.mp (I.stkSub b hb) with e | hb
  · rw [e]; exact I.free
  · obtain ⟨_, o, ho, _⟩ := I.ok.funs.mem hb
    exact I.base.free b o ho (I.ok.frf b hb) fun z => I.ok.exfs b z hb
theorem Inv.step {g' : Array GenState} {t' : Nat} {d' : Drawn} {ch : List Addr} (I : Inv X pins σ H s)
    (hch : ∀ b ∈ ch, (b ∈ X.ex ∨ X.s₀.heap.objs.size ≤ b) ∧ b ≠ X.env.locals ∧ (∀ x c, X.env.cells.lookup x = some c → c ≠ b) ∧ ∀ p ∈ X.pn ++ pins, p.1 ≠ b)
    (keep : ∀ b o, b ≠ X.env.locals → b ∉ X.fs → b ∉ ch → s.heap.get? b = some o → H b = none → h'.get? b = some o)
    (slot : ∀ b o, b ≠ X.env.locals → b ∈ X.fs → b ∉ ch → s.heap.get? b = some o → H b = none → ∃ sl, h'.get? b = some { o with slots := sl }) (free : ∀ b o, b ∉ ch → s.heap.get? b = some o → H b = none → H' b = none)
    (there : ∀ b o, b ∉ ch → s.heap.get? b = some o → ∃ o', h'.get? b = some o')
    (tups : ∀ b xs, H b = some (.tup xs) → H' b = some (.tup xs)) (frzs : ∀ b o u, H b = some (.frz o u) → H' b = some (.frz o u)) (tbls : ∀ b ps, H b = some (.tbl ps) → ∃ more, H' b = some (.tbl (ps ++ more)))
    (ns : ∀ m, s.heap.Ns X.env.locals m → h'.Ns X.env.locals m) (hok : HOk X.prog X.w H' h') (hg : AllBare g') :
    Inv X pins σ H' { s with heap := h', gens := g', drawn := d', toks := t' } := by
  have neL : ∀ b o, X.s₀.heap.get? b = some o → b ≠ X.env.locals := fun b o e => Nat.ne_of_lt (Nat.lt_of_lt_of_le (Heap.lt_size e) I.ok.above)
  have neC : ∀ b o, X.s₀.heap.get? b = some o → b ∉ X.ex → b ∉ ch := fun b o e hx hb => by
    rcases (hch b hb).1 with z | z
    · exact hx z
    · exact absurd (Nat.lt_of_lt_of_le (Heap.lt_size e) z) (Nat.lt_irrefl _)
  have cellK : ∀ x c, X.env.cells.lookup x = some c → ∀ v, s.heap.IsCell c v → h'.IsCell c v := fun x c e v ⟨o, ho, hd⟩ => by
    have nch : c ∉ ch := fun z => (hch c z).2.2.1 x c e rfl
    by_cases hc : c ∈ X.fs
    · obtain ⟨sl, q⟩ := slot c o (I.cne x c e) hc nch ho (I.freeC x c e)
      exact ⟨_, q, hd⟩
    · exact ⟨o, keep c o (I.cne x c e) hc nch ho (I.freeC x c e), hd⟩
  refine ⟨I.ok, I.os, hg, ⟨fun b o e n hb hx => ?_, fun b o e n hb hx => ?_, fun b o e n hx => ?_, fun b o e hx => ?_, fun b xs e => tups b xs (I.base.tups b xs e), fun b o xs e => frzs b o xs (I.base.frzs b o xs e), fun b ps e => ?_⟩, ?_, fun x c e => ?_, ?_, fun x c e => ?_, fun p hp => ?_, hok, I.len⟩
  · exact keep b o (neL b o e) hb (neC b o e hx) (I.base.keep b o e n hb hx) (I.base.free b o e n hx)
  · obtain ⟨sl, e1⟩ := I.base.slot b o e n hb hx
    obtain ⟨sl', e2⟩ := slot b _ (neL b o e) hb (neC b o e hx) e1 (I.base.free b o e n hx)
    exact ⟨sl', e2⟩
  · obtain ⟨o', e1⟩ := I.base.there b o e hx
    exact free b o' (neC b o e hx) e1 (I.base.free b o e n hx)
  · obtain ⟨o', e1⟩ := I.base.there b o e hx
    exact there b o' (neC b o e hx) e1
  · obtain ⟨m1, e1⟩ := I.base.tbls b ps e
    obtain ⟨m2, e2⟩ := tbls b _ e1
    exact ⟨m1 ++ m2, by rw [e2, Array.append_assoc]⟩
  · obtain ⟨m, hn, hl⟩ := I.loc
    refine ⟨m, ns m hn, fun i x v e1 e2 e3 => ?_⟩
    obtain ⟨u, r, l⟩ := hl i x v e1 e2 e3
    refine ⟨u, r, ?_⟩
    rcases l with l | ⟨k, c, e, z⟩
    · exact .inl l
    · exact .inr ⟨k, c, e, cellK x c e _ z⟩
  · obtain ⟨v, z⟩ := I.cell x c e
    exact ⟨v, cellK x c e v z⟩
  · obtain ⟨m, ⟨o, _, _, ho, _⟩, _⟩ := I.loc
    exact free _ o (fun z => (hch _ z).2.1 rfl) ho I.free
  · obtain ⟨v, o, ho, hd⟩ := I.cell x c e
    exact free c o (fun z => (hch c z).2.2.1 x c e rfl) ho (I.freeC x c e)
  · obtain ⟨e, n, ne, nf, d⟩ := I.pin p hp
    have nch : p.1 ∉ ch := fun z => (hch p.1 z).2.2.2 p hp rfl
    exact ⟨keep p.1 p.2 ne nf nch e n, free p.1 p.2 nch e n, ne, nf, d⟩
theorem Inv.un {t' : Nat} (I : Inv X pins σ H s) (u : Un X.fs [] H H' s.heap h') (hok : HOk X.prog X.w H' h') : Inv X pins σ H' { s with heap := h', toks := t' } := by
  obtain ⟨m, ⟨o, es, ep, ho, r⟩, _⟩ := id I.loc
  obtain ⟨sl, hL⟩ := u.any ho I.free (by simp)
  exact I.step (g' := s.gens) (d' := s.drawn) (ch := []) (fun _ z => nomatch z) (fun b o _ hb _ e n => u.keep b o e n hb (by simp)) (fun b o _ hb _ e n => u.slot b o e n hb (by simp)) (fun b o _ e n => u.free b o e n (by simp)) (fun b o _ e => u.there b o e (by simp)) u.tups u.frzs u.tbls (fun m' hm => by
    obtain ⟨o', es', ep', ho', r'⟩ := hm
    rw [ho] at ho'; cases ho'
    exact ⟨_, es', ep', hL, r'⟩) hok I.bare
theorem Inv.call {g' : Array GenState} {t' : Nat} {d' : Drawn} {ch : List Addr} (I : Inv X pins σ H s) (u : Un (frs X.stack) ch H H' s.heap h') (hok : HOk X.prog X.w H' h') (hg : AllBare g')
    (hch : ∀ b ∈ ch, (b ∈ X.ex ∨ X.s₀.heap.objs.size ≤ b) ∧ b ≠ X.env.locals ∧ (∀ x c, X.env.cells.lookup x = some c → c ≠ b) ∧ ∀ p ∈ X.pn ++ pins, p.1 ≠ b) :
    Inv X pins σ H' { s with heap := h', gens := g', drawn := d', toks := t' } := by
  obtain ⟨m, ⟨o, es, ep, ho, r⟩, _⟩ := id I.loc
  obtain ⟨sl, hL⟩ := u.any ho I.free fun z => (hch _ z).2.1 rfl
  exact I.step (ch := ch) hch (fun b o hL hb hc e n => u.keep b o e n (fun z => (List.mem_cons.mp (I.stkSub b z)).elim hL hb) hc) (fun b o _ _ hc e n => u.any e n hc) (fun b o hc e n => u.free b o e n hc) (fun b o hc e => u.there b o e hc) u.tups u.frzs u.tbls (fun m' hm => by
    obtain ⟨o', es', ep', ho', r'⟩ := hm
    rw [ho] at ho'; cases ho'
    exact ⟨_, es', ep', hL, r'⟩) hok hg
theorem Inv.turned {t' : Nat} {it : Addr} (I : Inv X pins σ H s) (k : ∀ b o, b ≠ it → s.heap.get? b = some o → h'.get? b = some o) (hn : H it = none) (hL : it ≠ X.env.locals)
    (h1 : it ∈ X.ex ∨ X.s₀.heap.objs.size ≤ it) (h2 : ∀ x c, X.env.cells.lookup x = some c → c ≠ it) (h3 : ∀ p ∈ X.pn ++ pins, p.1 ≠ it) : Inv X pins σ H { s with heap := h', toks := t' } := by
  have nit : ∀ b u, H b = some u → b ≠ it := fun b u e z => by rw [z, hn] at e; cases e
  refine I.step (g' := s.gens) (d' := s.drawn) (ch := [it]) (fun b hb => ?_) (fun b o _ _ hc e _ => k b o (fun z => hc (by simp [z])) e) (fun b o _ _ hc e _ => ⟨o.slots, k b o (fun z => hc (by simp [z])) e⟩) (fun _ _ _ _ n => n)
    (fun b o hc e => ⟨o, k b o (fun z => hc (by simp [z])) e⟩) (fun _ _ e => e) (fun _ _ _ e => e) (fun b ps e => ⟨#[], by rw [e]; simp⟩) (fun m hm => ?_) (fun b u e => ?_) I.bare
  · have e : b = it := by simpa using hb
    subst e
    exact ⟨h1, hL, h2, h3⟩
  · obtain ⟨o, es, ep, ho, r⟩ := hm
    exact ⟨o, es, ep, k _ o (Ne.symm hL) ho, r⟩
  · refine (I.hok b u e).stay (fun c v hc q => k c v ?_ q) (fun _ q => q) fun _ _ q => q
    rcases hc with z | z
    · rw [z]; exact nit b u e
    · exact nit c _ z
theorem Inv.tok (I : Inv X pins σ H s) (t : Nat) : Inv X pins σ H { s with toks := t } := I.un (h' := s.heap) (t' := t) Un.refl I.hok
theorem Inv.kept {t' : Nat} (I : Inv X pins σ H s) (k : ∀ b u, s.heap.get? b = some u → h'.get? b = some u) : Inv X pins σ H { s with heap := h', toks := t' } := I.un (Un.kept k) (I.hok.kept k)
theorem Inv.laid {a : Addr} {o : HO} {t' : Nat} (I : Inv X pins σ H s) (k : ∀ b u, s.heap.get? b = some u → h'.get? b = some u) (hp : s.heap.objs.size ≤ a) (new : ObjOk X.prog X.w (upd H a o) h' a o) :
    Inv X pins σ (upd H a o) { s with heap := h', toks := t' } := I.un (Un.laid k hp (I.hok.fresh hp)) (I.hok.laid k hp new)
theorem Inv.write {x e : Addr} {o : HO} {t' : Nat} (I : Inv X pins σ H s) (mu : Mut (H x)) (he : e = x ∨ H e = some (.own x)) (k : ∀ b u, b ≠ e → s.heap.get? b = some u → h'.get? b = some u) (heo : ∃ u, h'.get? e = some u)
    (new : ObjOk X.prog X.w (upd H x o) h' x o) : Inv X pins σ (upd H x o) { s with heap := h', toks := t' } := I.un (Un.write mu he k heo) (I.hok.write mu he k heo new)
theorem Inv.pins_of {pins' : List (Addr × Obj)} (I : Inv X pins σ H s) (h : ∀ p ∈ pins', s.heap.get? p.1 = some p.2 ∧ H p.1 = none ∧ p.1 ≠ X.env.locals ∧ p.1 ∉ X.fs ∧ ∀ v, p.2.data ≠ .cell v) : Inv X pins' σ H s :=
  ⟨I.ok, I.os, I.bare, I.base, I.loc, I.cell, I.free, I.freeC, fun p hp => (List.mem_append.mp hp).elim (fun z => I.pin p (List.mem_append_left _ z)) (h p), I.hok, I.len⟩
theorem nodup_ix {N : List Str} (hN : N.Nodup) {i j : Nat} {x : Str} (a : N[i]? = some x) (b : N[j]? = some x) : i = j := by
  obtain ⟨h1, e1⟩ := List.getElem?_eq_some_iff.mp a
  obtain ⟨h2, e2⟩ := List.getElem?_eq_some_iff.mp b
  exact (List.getElem_inj hN).mp (e1.trans e2.symm)
theorem store_ok2 {M : Model} {A : Around} {E : Value → Shared → Prop} {i : Nat} {x : Str} {v : V} {u : Value} {Q : Unit → Shared → Prop} (I : Inv X pins σ H s) (hN : X.N.Nodup) (hi : X.N[i]? = some x) (hx : Loc X.env.scope x) (r : RelV v u)
    (h : ∀ s', Inv X pins (σ.set i (some v)) H s' → (∃ a, Heap.SameBut a s.heap s'.heap ∧ (a = X.env.locals ∨ X.env.cells.lookup x = some a)) → Q () s') (hf : X.fn x = true ∨ X.env.scope.names.lookup x = some .local := by first | exact .inl rfl | exact .inr rfl | assumption) : wpAny M A (storeName X.env x u) Q E s := by
  obtain ⟨m, hn, hl⟩ := id I.loc
  have hcls : (X.env.scope.kind == .class || (X.env.scope.kind == .module && X.env.locals != X.env.globals)) = false := by rw [I.ok.kind]; rfl
  have hiσ : i < σ.length := by rw [I.len]; exact (List.getElem?_eq_some_iff.mp hi).1
  have cne := I.cne
  have tracked : ∀ {a : Addr} {h' : Heap}, (∃ o, s.heap.get? a = some o ∧ H a = none) → Heap.SameBut a s.heap h' → HOk X.prog X.w H h' := fun {a h'} ha hs b ob e => by
    obtain ⟨_, _, hfree⟩ := ha
    refine (I.hok b ob e).stay (fun c w' hc q => (hs.2 c ?_).trans q) (fun _ q => q) fun _ _ q => q
    rintro rfl
    rcases hc with rfl | hc
    · rw [hfree] at e; cases e
    · rw [hfree] at hc; cases hc
  rcases hx with hk | hk
  · refine wpAny_storeName_local hk hn (fun h' hn' hs => ?_) hcls
    obtain ⟨oL, _, _, hoL, _⟩ := id hn
    refine h _ ⟨I.ok, I.os, I.bare, ⟨fun b o e n hb hx => ?_, fun b o e n hb hx => ?_, I.base.free, fun b o e hx => ?_, I.base.tups, I.base.frzs, I.base.tbls⟩, ⟨_, hn', fun j y v' e1 e2 e3 => ?_⟩, fun y c e => ?_, I.free, I.freeC, fun p hp => ?_, tracked ⟨oL, hoL, I.free⟩ hs, by simpa using I.len⟩ ⟨_, hs, .inl rfl⟩
    · exact (hs.2 b (Nat.ne_of_lt (Nat.lt_of_lt_of_le (Heap.lt_size e) I.ok.above))).trans (I.base.keep b o e n hb hx)
    · obtain ⟨sl, e1⟩ := I.base.slot b o e n hb hx
      exact ⟨sl, (hs.2 b (Nat.ne_of_lt (Nat.lt_of_lt_of_le (Heap.lt_size e) I.ok.above))).trans e1⟩
    · obtain ⟨o', e1⟩ := I.base.there b o e hx
      exact ⟨o', (hs.2 b (Nat.ne_of_lt (Nat.lt_of_lt_of_le (Heap.lt_size e) I.ok.above))).trans e1⟩
    · by_cases hj : j = i
      · subst hj
        rw [hi] at e1; cases e1
        rw [List.getElem?_set_self hiσ] at e2
        cases e2
        exact ⟨u, r, .inl ⟨hk, by simp⟩⟩
      · rw [List.getElem?_set_ne (Ne.symm hj)] at e2
        obtain ⟨u', r', q⟩ := hl j y v' e1 e2 e3
        refine ⟨u', r', ?_⟩
        rcases q with ⟨k, e⟩ | ⟨k, c, e, z⟩
        · refine .inl ⟨k, ?_⟩
          have : y ≠ x := fun e => hj (nodup_ix hN e1 (e ▸ hi))
          simp [this, e]
        · exact .inr ⟨k, c, e, z.sameBut hs (cne y c e)⟩
    · obtain ⟨w', z⟩ := I.cell y c e
      exact ⟨w', z.sameBut hs (cne y c e)⟩
    · obtain ⟨e, n, ne, nf, d⟩ := I.pin p hp
      exact ⟨(hs.2 p.1 ne).trans e, n, ne, nf, d⟩
  · have hfn : X.fn x = true := by
      rcases hf with z | z
      · exact z
      · rw [z] at hk; cases hk
    obtain ⟨c, hc⟩ := I.ok.has x (.inl hk)
    obtain ⟨w', z⟩ := I.cell x c hc
    refine wpAny_storeName_cell I.ok.kind hk hc z (fun h' hc' hs => ?_)
    obtain ⟨oc, hoc, hocd⟩ := id z
    refine h { s with heap := h' } ⟨I.ok, I.os, I.bare, ⟨fun b o e n hb hx => ?_, fun b o e n hb hx => ?_, I.base.free, fun b o e hx => ?_, I.base.tups, I.base.frzs, I.base.tbls⟩, ⟨m, hn.sameBut hs (Ne.symm (cne x c hc)), fun j y v' e1 e2 e3 => ?_⟩, fun y c' e => ?_, I.free, I.freeC, fun p hp => ?_, tracked ⟨oc, hoc, I.freeC x c hc⟩ hs, by simpa using I.len⟩ ⟨c, hs, .inr hc⟩
    · exact (hs.2 b (Nat.ne_of_lt (Nat.lt_of_lt_of_le (Heap.lt_size e) (I.ok.cab x c hfn hc)))).trans (I.base.keep b o e n hb hx)
    · obtain ⟨sl, e1⟩ := I.base.slot b o e n hb hx
      exact ⟨sl, (hs.2 b (Nat.ne_of_lt (Nat.lt_of_lt_of_le (Heap.lt_size e) (I.ok.cab x c hfn hc)))).trans e1⟩
    · obtain ⟨o', e1⟩ := I.base.there b o e hx
      exact ⟨o', (hs.2 b (Nat.ne_of_lt (Nat.lt_of_lt_of_le (Heap.lt_size e) (I.ok.cab x c hfn hc)))).trans e1⟩
    · by_cases hj : j = i
      · subst hj
        rw [hi] at e1; cases e1
        rw [List.getElem?_set_self hiσ] at e2
        cases e2
        exact ⟨u, r, .inr ⟨.inl hk, c, hc, hc'⟩⟩
      · rw [List.getElem?_set_ne (Ne.symm hj)] at e2
        obtain ⟨u', r', q⟩ := hl j y v' e1 e2 e3
        refine ⟨u', r', ?_⟩
        rcases q with q | ⟨k, c', e, z'⟩
        · exact .inl q
        · refine .inr ⟨k, c', e, z'.sameBut hs ?_⟩
          rintro rfl
          exact hj (nodup_ix hN e1 (I.ok.inj _ _ _ e hc ▸ hi))
    · by_cases hcc : c' = c
      · subst hcc; exact ⟨_, hc'⟩
      · obtain ⟨w2, z2⟩ := I.cell y c' e
        exact ⟨w2, z2.sameBut hs hcc⟩
    · obtain ⟨e, n, ne, nf, d⟩ := I.pin p hp
      refine ⟨(hs.2 p.1 ?_).trans e, n, ne, nf, d⟩
      intro q
      rw [q, hoc] at e
      have q' : oc = p.2 := Option.some.inj e
      exact d w' (by rw [← q']; exact hocd)
theorem store_ok {M : Model} {A : Around} {E : Value → Shared → Prop} {i : Nat} {x : Str} {v : V} {u : Value} {Q : Unit → Shared → Prop} (I : Inv X pins σ H s) (hN : X.N.Nodup) (hi : X.N[i]? = some x) (hx : Loc X.env.scope x) (r : RelV v u)
    (h : ∀ s', Inv X pins (σ.set i (some v)) H s' → Q () s') (hf : X.fn x = true ∨ X.env.scope.names.lookup x = some .local := by first | exact .inl rfl | exact .inr rfl | assumption) : wpAny M A (storeName X.env x u) Q E s :=
  store_ok2 I hN hi hx r (fun s' I' _ => h s' I') hf
theorem Inv.call' {s' : Shared} {ch : List Addr} (I : Inv X pins σ H s) (ho : s'.os = s.os) (u : Un (frs X.stack) ch H H' s.heap s'.heap) (hok : HOk X.prog X.w H' s'.heap) (hg : AllBare s'.gens)
    (hch : ∀ b ∈ ch, (b ∈ X.ex ∨ X.s₀.heap.objs.size ≤ b) ∧ b ≠ X.env.locals ∧ (∀ x c, X.env.cells.lookup x = some c → c ≠ b) ∧ ∀ p ∈ X.pn ++ pins, p.1 ≠ b) : Inv X pins σ H' s' := by
  obtain ⟨h', g', d', t', o'⟩ := s'
  have e : o' = s.os := ho
  subst e
  exact I.call (g' := g') (t' := t') (d' := d') u hok hg hch
end
abbrev XK := Value → Option Addr → Hp → Prop
abbrev St := List (Option V)
abbrev VK := V → Hp → Prop
abbrev TE := St → Hp → VK → Prop
abbrev TT := St → Hp → (Bool → Hp → Prop) → Prop
abbrev TA := St → Hp → (List V → Hp → Prop) → Prop
structure Ends where
  nx : St → Hp → Prop
  rt : VK
  bk : St → Hp → Prop := fun _ _ => False
  ct : St → Hp → Prop := fun _ _ => False
abbrev TS := Ends → St → Hp → Prop
def EP (X : Cx) (pins : List (Addr × Obj)) (σ : St) (Q : VK) (u : Value) (s' : Shared) : Prop := ∃ v H', Inv X pins σ H' s' ∧ RelV v u ∧ Q v H'
def TP (X : Cx) (pins : List (Addr × Obj)) (σ : St) (Q : Bool → Hp → Prop) (b : Bool) (s' : Shared) : Prop := ∃ H', Inv X pins σ H' s' ∧ Q b H'
def AP (X : Cx) (pins : List (Addr × Obj)) (σ : St) (Q : List V → Hp → Prop) (us : List Value) (s' : Shared) : Prop := ∃ vs H', Inv X pins σ H' s' ∧ Vals vs us ∧ Q vs H'
def SP (X : Cx) (pins : List (Addr × Obj)) (D : Ends) (f : Flow) (s' : Shared) : Prop :=
  match f with
  | .next => ∃ σ' H', Inv X pins σ' H' s' ∧ D.nx σ' H'
  | .brk => ∃ σ' H', Inv X pins σ' H' s' ∧ D.bk σ' H'
  | .cont => ∃ σ' H', Inv X pins σ' H' s' ∧ D.ct σ' H'
  | .ret u => ∃ v σ' H', Inv X pins σ' H' s' ∧ RelV v u ∧ D.rt v H'
def PE (X : Cx) (e : Expr) (t : TE) : Prop :=
  ∀ (pins : List (Addr × Obj)) (s : Shared) (σ : St) (H : Hp) (Q : VK), Inv X pins σ H s → t σ H Q → wpAny (model X.prog X.w) X.A (eval e X.env) (EP X pins σ Q) X.xe s
def PT (X : Cx) (e : Expr) (t : TT) : Prop :=
  ∀ (pins : List (Addr × Obj)) (s : Shared) (σ : St) (H : Hp) (Q : Bool → Hp → Prop), Inv X pins σ H s → t σ H Q → wpAny (model X.prog X.w) X.A (isTrue e X.env (eval e X.env)) (TP X pins σ Q) X.xe s
def PW (X : Cx) (e : Expr) (t : TT) : Prop :=
  ∀ (whole : Sem Value) (pins : List (Addr × Obj)) (s : Shared) (σ : St) (H : Hp) (Q : Bool → Hp → Prop), Inv X pins σ H s → t σ H Q → wpAny (model X.prog X.w) X.A (isTrue e X.env whole) (TP X pins σ Q) X.xe s
theorem PW.pt {X : Cx} {e : Expr} {t : TT} (h : PW X e t) : PT X e t := h _
def PA (X : Cx) (es : List Expr) (t : TA) : Prop :=
  ∀ (pos : Pos) (pins : List (Addr × Obj)) (s : Shared) (σ : St) (H : Hp) (Q : List V → Hp → Prop), Inv X pins σ H s → t σ H Q → wpAny (model X.prog X.w) X.A (spliced (backTo pos (starEach es X.env))) (AP X pins σ Q) X.xe s
def PS (X : Cx) (st : Stmt) (t : TS) : Prop :=
  ∀ (pins : List (Addr × Obj)) (s : Shared) (σ : St) (H : Hp) (D : Ends), Inv X pins σ H s → t D σ H → wpAny (model X.prog X.w) X.A (exec st X.env) (SP X pins D) X.xe s
def PSs (X : Cx) (st : List Stmt) (t : TS) : Prop :=
  ∀ (pins : List (Addr × Obj)) (s : Shared) (σ : St) (H : Hp) (D : Ends), Inv X pins σ H s → t D σ H → wpAny (model X.prog X.w) X.A (execs st X.env) (SP X pins D) X.xe s
theorem thn {α : Type} {t : Sem α} {Q Q' : α → Shared → Prop} {M : Model} {A : Around} {E : Value → Shared → Prop} {s : Shared} (h : wpAny M A t Q E s) (hQ : ∀ a s, Q a s → Q' a s) : wpAny M A t Q' E s := wpAny_mono h hQ fun _ _ x => x
end L2
namespace L2
open PySem PySem.Spec PyProof.Rows
section
variable {X : Cx}
def tVar (i : Nat) : TE := fun σ H Q => ∃ v, σ[i]? = some (some v) ∧ Q v H
def tC (v : V) : TE := fun _ H Q => Q v H
theorem pe_var {i : Nat} {x : Str} {pos : Pos} (hN : X.N[i]? = some x) (hv : Vis X.env.scope x) (hd : (x == ("__debug__" : Str)) = false := by decide) (hcd : (x == ("__classdict__" : Str)) = false := by decide) : PE X (.Name x pos) (tVar i) := by
  intro pins s σ H Q I h
  obtain ⟨v, e, h⟩ := h
  obtain ⟨m, hn, hl⟩ := I.loc
  obtain ⟨u, r, l⟩ := hl i x v hN e hv
  have fin : EP X pins σ Q u s := ⟨v, H, I, r, h⟩
  rcases l with ⟨hk, hm⟩ | ⟨hk, c, hc, hcell⟩
  · exact wpAny_Name (wpAny_loadName_local I.ok.kind hk hn hm fin) hd
  · rcases hk with hk | hk
    · exact wpAny_Name (wpAny_loadName_cell I.ok.kind hk hc hcell fin) hd
    · exact wpAny_Name (wpAny_loadName_free I.ok.kind hk hc hcell fin hcd) hd
theorem pe_int {i j pos} : PE X (.Constant (.int i) j pos) (tC (.int i)) := fun _ _ _ H _ I h => wpAny_Constant_int ⟨.int i, H, I.tok _, ⟨_, rfl⟩, h⟩
theorem pe_bl {b j pos} : PE X (.Constant (.bool b) j pos) (tC (.bl b)) := fun _ _ _ H _ I h => Constant_bool ⟨.bl b, H, I, rfl, h⟩
theorem pe_non {j pos} : PE X (.Constant .none j pos) (tC .non) := fun _ _ _ H _ I h => Constant_none ⟨.non, H, I, rfl, h⟩
theorem pe_str {x j pos} : PE X (.Constant (.str x) j pos) (tC (.str x)) := fun _ _ _ H _ I h => Calls.Constant_str ⟨.str x, H, I.tok _, ⟨_, rfl⟩, h⟩
def Gl (X : Cx) (x : Str) : Prop := X.env.kindOf x = some .globalImplicit
theorem ld_glob {E : Value → Shared → Prop} {pins : List (Addr × Obj)} {s : Shared} {σ : St} {H : Hp} {x : Str} {u : Value} {pos : Pos} {Q : Value → Shared → Prop} (I : Inv X pins σ H s) (hg : Gl X x) (hm : X.mg x = some u) (h : Q u s)
    (hd : (x == ("__debug__" : Str)) = false := by decide) : wpAny (model X.prog X.w) X.A (eval (.Name x pos) X.env) Q E s :=
  Calls.Name_function_global I.ok.kind hg (Calls.loadGlobal_global (by rw [I.ok.glob]; exact I.mod.glob.keeps I.bk) hm h) hd
theorem ld_blt {E : Value → Shared → Prop} {pins : List (Addr × Obj)} {s : Shared} {σ : St} {H : Hp} {x : Str} {u : Value} {pos : Pos} {Q : Value → Shared → Prop} (I : Inv X pins σ H s) (hg : Gl X x) (hm : X.mg x = none) (hv : bootBuiltins x = some u) (h : Q u s)
    (hn : x ≠ "__name__" := by decide) (hd : (x == ("__debug__" : Str)) = false := by decide) : wpAny (model X.prog X.w) X.A (eval (.Name x pos) X.env) Q E s := by
  obtain ⟨mb, h1, h2⟩ := I.mod.blt
  exact Calls.Name_function_global I.ok.kind hg (Calls.loadGlobal_builtin (by rw [I.ok.glob]; exact I.mod.glob.keeps I.bk) hm (by rw [I.ok.blt]; exact h1.keeps I.bk) ((h2 x hn).trans hv) h) hd
theorem pe_glob {x : Str} {v : V} {u : Value} {pos : Pos} (hg : Gl X x) (hm : X.mg x = some u) (r : RelV v u) (hd : (x == ("__debug__" : Str)) = false := by decide) : PE X (.Name x pos) (tC v) :=
  fun _ _ _ H _ I h => ld_glob I hg hm ⟨v, H, I, r, h⟩ hd
theorem pe_bltn {x : Str} {v : V} {u : Value} {pos : Pos} (hg : Gl X x) (hm : X.mg x = none) (hv : bootBuiltins x = some u) (r : RelV v u) (hn : x ≠ "__name__" := by decide) (hd : (x == ("__debug__" : Str)) = false := by decide) : PE X (.Name x pos) (tC v) :=
  fun _ _ _ H _ I h => ld_blt I hg hm hv ⟨v, H, I, r, h⟩ hn hd
variable {a b : Expr} {ta tb : TE} {pos : Pos}
def tB (t : TE) : TT := fun σ H Q => t σ H fun x H1 => ∃ c, x = .bl c ∧ Q c H1
theorem pt_val {e : Expr} {t : TE} (h : PE X e t) (he : ∀ whole, isTrue e X.env whole = (do let v ← whole; standAt e.pos; holding [v] (truthy v)) := by intro _; rfl) : PT X e (tB t) := by
  intro pins s σ H Q I hw
  refine isTrue_plain (thn (h pins s σ H _ I hw) fun v s1 ⟨x, H1, I1, r1, q1⟩ => ?_) (he _)
  obtain ⟨d, rfl, q⟩ := q1
  cases r1
  exact wpAny_truthy_bool ⟨H1, I1, q⟩
variable {tA tB' : TT} {rest : List Expr}
def tAnd (t u : TT) : TT := fun σ H Q => t σ H fun c H1 => if c = true then u σ H1 Q else Q false H1
def tOr (t u : TT) : TT := fun σ H Q => t σ H fun c H1 => if c = true then Q true H1 else u σ H1 Q
def tNot (t : TT) : TT := fun σ H Q => t σ H fun c H1 => Q (!c) H1
theorem pw_and1 (ha : PT X a tA) : PW X (.BoolOp .And [a] pos) tA := by
  intro wh pins s σ H Q I h
  refine isTrue_and (thn (ha pins s σ H Q I h) fun c s1 e => ?_)
  cases c with
  | true => exact isTrue_and_nil e
  | false => exact e
theorem pw_or1 (ha : PT X a tA) : PW X (.BoolOp .Or [a] pos) tA := by
  intro wh pins s σ H Q I h
  refine isTrue_or (thn (ha pins s σ H Q I h) fun c s1 e => ?_)
  cases c with
  | false => exact isTrue_or_nil e
  | true => exact e
theorem pw_and (ha : PT X a tA) (hb : PW X (.BoolOp .And (b :: rest) pos) tB') : PW X (.BoolOp .And (a :: b :: rest) pos) (tAnd tA tB') := by
  intro wh pins s σ H Q I h
  refine isTrue_and (thn (ha pins s σ H _ I h) fun c s1 ⟨H1, I1, q1⟩ => ?_)
  cases c with
  | true => exact hb wh pins s1 σ H1 Q I1 q1
  | false => exact ⟨H1, I1, q1⟩
theorem pw_or (ha : PT X a tA) (hb : PW X (.BoolOp .Or (b :: rest) pos) tB') : PW X (.BoolOp .Or (a :: b :: rest) pos) (tOr tA tB') := by
  intro wh pins s σ H Q I h
  refine isTrue_or (thn (ha pins s σ H _ I h) fun c s1 ⟨H1, I1, q1⟩ => ?_)
  cases c with
  | true => exact ⟨H1, I1, q1⟩
  | false => exact hb wh pins s1 σ H1 Q I1 q1
theorem pt_not (ha : PT X a tA) : PT X (.UnaryOp .Not a pos) (tNot tA) := by
  intro pins s σ H Q I h
  exact isTrue_not (ha pins s σ H (fun c H1 => Q (!c) H1) I h)
def tAndV (ta tb : TE) : TE := fun σ H Q => ta σ H fun x H1 => ∃ c, x = .bl c ∧ if c = true then tb σ H1 Q else Q (.bl false) H1
def tOrV (ta tb : TE) : TE := fun σ H Q => ta σ H fun x H1 => ∃ c, x = .bl c ∧ if c = true then Q (.bl true) H1 else tb σ H1 Q
def tNotV (ta : TE) : TE := fun σ H Q => ta σ H fun x H1 => ∃ c, x = .bl c ∧ Q (.bl (!c)) H1
theorem pe_one {op} {t : TE} (h : PE X a t) : PE X (.BoolOp op [a] pos) t := fun pins s σ H Q I hw => BoolOp_one (h pins s σ H Q I hw)
theorem pe_and (ha : PE X a ta) (hb : PE X (.BoolOp .And (b :: rest) pos) tb) : PE X (.BoolOp .And (a :: b :: rest) pos) (tAndV ta tb) := by
  intro pins s σ H Q I h
  refine BoolOp_and (thn (ha pins s σ H _ I h) fun v s1 ⟨x, H1, I1, r1, q1⟩ => ?_)
  obtain ⟨c, rfl, q1⟩ := q1
  cases r1
  refine wpAny_truthy_bool ?_
  cases c with
  | true => exact hb pins s1 σ H1 Q I1 q1
  | false => exact ⟨.bl false, H1, I1, rfl, q1⟩
theorem pe_or (ha : PE X a ta) (hb : PE X (.BoolOp .Or (b :: rest) pos) tb) : PE X (.BoolOp .Or (a :: b :: rest) pos) (tOrV ta tb) := by
  intro pins s σ H Q I h
  refine BoolOp_or (thn (ha pins s σ H _ I h) fun v s1 ⟨x, H1, I1, r1, q1⟩ => ?_)
  obtain ⟨c, rfl, q1⟩ := q1
  cases r1
  refine wpAny_truthy_bool ?_
  cases c with
  | false => exact hb pins s1 σ H1 Q I1 q1
  | true => exact ⟨.bl true, H1, I1, rfl, q1⟩
theorem pe_not (ha : PE X a ta) : PE X (.UnaryOp .Not a pos) (tNotV ta) := by
  intro pins s σ H Q I h
  refine UnaryOp_ (thn (ha pins s σ H _ I h) fun v s1 ⟨x, H1, I1, r1, q1⟩ => ?_)
  obtain ⟨c, rfl, q1⟩ := q1
  cases r1
  exact not_of (wpAny_truthy_bool ⟨.bl (!c), H1, I1, rfl, q1⟩)
def tIf (t : TT) (ta tb : TE) : TE := fun σ H Q => t σ H fun c H1 => if c = true then ta σ H1 Q else tb σ H1 Q
theorem pe_ifExp {c : Expr} (hc : PT X c tA) (ha : PE X a ta) (hb : PE X b tb) : PE X (.IfExp c a b pos) (tIf tA ta tb) := by
  intro pins s σ H Q I h
  refine wpAny_IfExp (thn (hc pins s σ H _ I h) fun d s1 ⟨H1, I1, q1⟩ => ?_)
  cases d with
  | true => exact ha pins s1 σ H1 Q I1 q1
  | false => exact hb pins s1 σ H1 Q I1 q1
end
end L2
namespace L2
open PySem PySem.Spec PyProof.Rows
def SqL (K : PySem.W.Frag) (H : Hp) (a : Addr) (xs : List V) : Prop :=
  Rd H a (.lst xs) ∨
    ∃ (o : Obj) (its : Array Value) (n : Nat), K.lookup a = some o ∧ o.cls = .type "list" ∧ o.dict = none ∧ o.data = .seq its n ∧ its.size ≤ sizeLine ∧ Vals xs its.toList
def SqT (K : PySem.W.Frag) (H : Hp) (a : Addr) (xs : List V) : Prop :=
  Rd H a (.tup xs) ∨
    ∃ (o : Obj) (its : Array Value) (n : Nat), K.lookup a = some o ∧ o.cls = .type "tuple" ∧ o.data = .seq its n ∧ its.size ≤ sizeLine ∧ Vals xs its.toList
def absV : Value → Option V
  | .none => some .non
  | .bool b => some (.bl b)
  | .int i _ => some (.int i)
  | .str x _ => some (.str x)
  | .bytes b _ => some (.byt b)
  | .float b _ => some (.flt b)
  | .ref a => some (.ref a)
  | .type n => some (.ty n)
  | _ => none
theorem RelV.abs {x : V} {u : Value} (r : RelV x u) : absV u = some x := by
  cases x with
  | non => cases r; rfl
  | bl _ => cases r; rfl
  | int _ => obtain ⟨t, rfl⟩ := r; rfl
  | str _ => obtain ⟨t, rfl⟩ := r; rfl
  | byt _ => obtain ⟨t, rfl⟩ := r; rfl
  | flt _ => obtain ⟨t, rfl⟩ := r; rfl
  | ref _ => cases r; rfl
  | ty _ => cases r; rfl
theorem RelV.inj {x y : V} {u : Value} (r : RelV x u) (q : RelV y u) : x = y := Option.some.inj (r.abs.symm.trans q.abs)
theorem Vals.inj : ∀ {xs ys : List V} {us : List Value}, Vals xs us → Vals ys us → xs = ys
  | _, _, _, .nil, .nil => rfl
  | _, _, _, .cons r t, .cons r' t' => by rw [r.inj r', Vals.inj t t']
section
variable {X : Cx} {pins : List (Addr × Obj)} {σ : St} {H : Hp} {s : Shared} {a : Addr} {xs ys : List V}
theorem SqL.of {K : PySem.W.Frag} (h : H a = some (.lst xs)) : SqL K H a xs := .inl (.inl h)
theorem SqT.of {K : PySem.W.Frag} (h : H a = some (.tup xs)) : SqT K H a xs := .inl (.inl h)
theorem Inv.list (I : Inv X pins σ H s) (h : SqL X.K H a xs) : ∃ its : List Value, Vals xs its ∧ PlainL s.heap a its.toArray ∧ xs.length ≤ sizeLine := by
  rcases h with h | ⟨o, its, n, hk, hc, hd, hs, hz, r⟩
  · obtain ⟨z, its, n, r, e⟩ := h.ok I.hok
    exact ⟨its, r, ⟨_, n, e, rfl, rfl, rfl⟩, z⟩
  · refine ⟨its.toList, r, ⟨o, n, I.kIn a o hk, hc, hd, by simpa using hs⟩, ?_⟩
    have e := r.length
    simp only [Array.length_toList] at e
    omega
theorem Inv.tuple (I : Inv X pins σ H s) (h : SqT X.K H a xs) : ∃ its : List Value, Vals xs its ∧ IsTup s.heap a its.toArray ∧ xs.length ≤ sizeLine := by
  rcases h with h | ⟨o, its, n, hk, hc, hs, hz, r⟩
  · obtain ⟨z, its, r, p⟩ := h.ok I.hok
    exact ⟨its, r, p, z⟩
  · refine ⟨its.toList, r, ⟨o, I.kIn a o hk, hc, n, by simpa using hs⟩, ?_⟩
    have e := r.length
    simp only [Array.length_toList] at e
    omega
theorem Inv.list_inj (I : Inv X pins σ H s) (h : SqL X.K H a xs) (h' : SqL X.K H a ys) : xs = ys := by
  obtain ⟨its, r, ⟨o, n, e, _, _, d⟩, _⟩ := I.list h
  obtain ⟨its', r', ⟨o', n', e', _, _, d'⟩, _⟩ := I.list h'
  rw [e] at e'; cases e'
  rw [d] at d'
  injection d' with d1 _
  have : its = its' := by simpa using congrArg Array.toList d1
  subst this
  exact r.inj r'
theorem Inv.tuple_inj (I : Inv X pins σ H s) (h : SqT X.K H a xs) (h' : SqT X.K H a ys) : xs = ys := by
  obtain ⟨its, r, ⟨o, e, _, n, d⟩, _⟩ := I.tuple h
  obtain ⟨its', r', ⟨o', e', _, n', d'⟩, _⟩ := I.tuple h'
  rw [e] at e'; cases e'
  rw [d] at d'
  injection d' with d1 _
  have : its = its' := by simpa using congrArg Array.toList d1
  subst this
  exact r.inj r'
end
abbrev Cx.wish (X : Cx) (E : Value → Shared → Prop) : Cx := { X with xe := E }
abbrev Cx.nox (X : Cx) : Cx := X.wish fun _ _ => False
theorem Cx.Ok.wish {X : Cx} (ok : X.Ok) (E : Value → Shared → Prop) : (X.wish E).Ok :=
  ⟨ok.mod, ok.kind, ok.glob, ok.blt, ok.above, ok.inj, ok.has, ok.cab, ok.hd, ok.frames, ok.stk, ok.exf, ok.bs, ok.bsz, ok.noex, ok.exfs, ok.funs, ok.frf⟩
theorem Cx.Ok.unwish {X : Cx} {E : Value → Shared → Prop} (ok : (X.wish E).Ok) : X.Ok :=
  ⟨ok.mod, ok.kind, ok.glob, ok.blt, ok.above, ok.inj, ok.has, ok.cab, ok.hd, ok.frames, ok.stk, ok.exf, ok.bs, ok.bsz, ok.noex, ok.exfs, ok.funs, ok.frf⟩
section
variable {X : Cx} {pins : List (Addr × Obj)} {σ : St} {H : Hp} {s : Shared} {E : Value → Shared → Prop}
theorem Inv.wish (I : Inv X pins σ H s) (E : Value → Shared → Prop) : Inv (X.wish E) pins σ H s := ⟨I.ok.wish E, I.os, I.bare, I.base, I.loc, I.cell, I.free, I.freeC, I.pin, I.hok, I.len⟩
theorem Inv.unwish (I : Inv (X.wish E) pins σ H s) : Inv X pins σ H s := ⟨I.ok.unwish, I.os, I.bare, I.base, I.loc, I.cell, I.free, I.freeC, I.pin, I.hok, I.len⟩
theorem SP.unwish {D : Ends} {f : Flow} {s' : Shared} (h : SP (X.wish E) pins D f s') : SP X pins D f s' := by
  cases f with
  | next => obtain ⟨σ', H', I, q⟩ := h; exact ⟨σ', H', I.unwish, q⟩
  | brk => obtain ⟨σ', H', I, q⟩ := h; exact ⟨σ', H', I.unwish, q⟩
  | cont => obtain ⟨σ', H', I, q⟩ := h; exact ⟨σ', H', I.unwish, q⟩
  | ret u => obtain ⟨v, σ', H', I, r, q⟩ := h; exact ⟨v, σ', H', I.unwish, r, q⟩
theorem PE.nox {e : Expr} {t : TE} (h : PE X.nox e t) : PE X e t := fun pins s σ H Q I hw =>
  wpAny_mono (h pins s σ H Q (I.wish _) hw) (fun _ _ ⟨v, H', I', r, q⟩ => ⟨v, H', I'.unwish, r, q⟩) fun _ _ z => False.elim z
theorem PT.nox {e : Expr} {t : TT} (h : PT X.nox e t) : PT X e t := fun pins s σ H Q I hw =>
  wpAny_mono (h pins s σ H Q (I.wish _) hw) (fun _ _ ⟨H', I', q⟩ => ⟨H', I'.unwish, q⟩) fun _ _ z => False.elim z
theorem PSs.nox {st : List Stmt} {t : TS} (h : PSs X.nox st t) : PSs X st t := fun pins s σ H D I hw =>
  wpAny_mono (h pins s σ H D (I.wish _) hw) (fun _ _ q => q.unwish) fun _ _ z => False.elim z
end
section
variable {X : Cx} {st : Stmt} {rest : List Stmt} {t u : TS} {e : Expr} {te : TE} {pos : Pos}
def tNext : TS := fun D σ H => D.nx σ H
def tSeq (t u : TS) : TS := fun D σ H => t { D with nx := u D } σ H
theorem pss_nil : PSs X [] tNext := fun _ _ σ H _ I h => wpAny_execs_nil ⟨σ, H, I, h⟩
theorem pss_cons (h1 : PS X st t) (h2 : PSs X rest u) : PSs X (st :: rest) (tSeq t u) := by
  intro pins s σ H D I h
  refine wpAny_execs_cons (thn (h1 pins s σ H { D with nx := u D } I h) fun f s1 q => ?_)
  cases f with
  | next =>
    obtain ⟨σ', H', I', q⟩ := q
    exact h2 pins s1 σ' H' D I' q
  | ret v => exact q
  | brk => exact q
  | cont => exact q
theorem pss_one (h1 : PS X st t) : PSs X [st] t := by
  intro pins s σ H D I h
  refine wpAny_execs_cons (thn (h1 pins s σ H D I h) fun f s1 q => ?_)
  cases f with
  | next => exact wpAny_execs_nil q
  | ret v => exact q
  | brk => exact q
  | cont => exact q
theorem Inv.quiet {pins : List (Addr × Obj)} {σ : St} {H : Hp} {s : Shared} (I : Inv X pins σ H s) : interactive X.env = false := by simp [interactive, I.ok.kind]
def tDrop (te : TE) : TS := fun D σ H => te σ H fun _ H1 => D.nx σ H1
theorem ps_expr (he : PE X e te) (hs : swapsWith e none pos.line X.env = pure false := by rfl) : PS X (.Expr e pos) (tDrop te) := by
  intro pins s σ H D I h
  exact wpAny_Expr_any (thn (he pins s σ H _ I h) fun v s1 ⟨x, H1, I1, r1, q1⟩ => ⟨σ, H1, I1, q1⟩) I.quiet hs
def tRet (te : TE) : TS := fun D σ H => te σ H D.rt
theorem ps_ret (he : PE X e te) : PS X (.Return (some e) pos) (tRet te) := by
  intro pins s σ H D I h
  exact wpAny_Return_some (thn (he pins s σ H _ I h) fun v s1 ⟨x, H1, I1, r1, q1⟩ => ⟨x, σ, H1, I1, r1, q1⟩)
def tIfS (c : TT) (t u : TS) : TS := fun D σ H => c σ H fun b H1 => if b = true then t D σ H1 else u D σ H1
theorem ps_if {c : Expr} {a b : List Stmt} {tc : TT} (hc : PT X c tc) (ha : PSs X a t) (hb : PSs X b u) : PS X (.If c a b pos) (tIfS tc t u) := by
  intro pins s σ H D I h
  refine wpAny_If (thn (hc pins s σ H _ I h) fun d s1 ⟨H1, I1, q1⟩ => ?_)
  cases d with
  | true => exact ha pins s1 σ H1 D I1 q1
  | false => exact hb pins s1 σ H1 D I1 q1
end
abbrev TG := V → St → Hp → (St → Hp → Prop) → Prop
abbrev TGs := List V → St → Hp → (St → Hp → Prop) → Prop
def PG (X : Cx) (target : Expr) (t : TG) : Prop :=
  ∀ (pins : List (Addr × Obj)) (s : Shared) (σ : St) (H : Hp) (v : V) (u : Value) (Q : St → Hp → Prop), Inv X pins σ H s → RelV v u → t v σ H Q →
    wpAny (model X.prog X.w) X.A (assign target X.env u) (fun _ s' => ∃ σ' H', Inv X pins σ' H' s' ∧ Q σ' H') X.xe s
def PGs (X : Cx) (ts : List Expr) (t : TGs) : Prop :=
  ∀ (pins : List (Addr × Obj)) (s : Shared) (σ : St) (H : Hp) (vs : List V) (us : List Value) (Q : St → Hp → Prop), Inv X pins σ H s → Vals vs us → t vs σ H Q →
    wpAny (model X.prog X.w) X.A (assignInOrder ((assignEach ts X.env).map (·.2)) us) (fun _ s' => ∃ σ' H', Inv X pins σ' H' s' ∧ Q σ' H') X.xe s
abbrev TSet := V → V → V → Hp → (Hp → Prop) → Prop
def PSet (X : Cx) (t : TSet) : Prop :=
  ∀ (pins : List (Addr × Obj)) (s : Shared) (σ : St) (H : Hp) (o i v : V) (ov iv u : Value) (Q : Hp → Prop), Inv X pins σ H s → RelV o ov → RelV i iv → RelV v u → t o i v H Q →
    wpAny (model X.prog X.w) X.A (setItem ov iv u) (fun _ s' => ∃ H', Inv X pins σ H' s' ∧ Q H') X.xe s
section
variable {X : Cx} {pos : Pos}
def gName (i : Nat) : TG := fun v σ H Q => Q (σ.set i (some v)) H
theorem pg_name {i : Nat} {x : Str} (hN : X.N.Nodup) (hi : X.N[i]? = some x) (hx : Loc X.env.scope x) (hf : X.fn x = true ∨ X.env.scope.names.lookup x = some .local := by first | exact .inl rfl | exact .inr rfl | assumption) : PG X (.Name x pos) (gName i) := by
  intro pins s σ H v u Q I r h
  exact wpAny_assign_Name (store_ok I hN hi hx r (fun s' I' => ⟨_, H, I', h⟩) hf)
def gNil : TGs := fun vs σ H Q => vs = [] ∧ Q σ H
def gCons (t : TG) (u : TGs) : TGs := fun vs σ H Q => ∃ v r, vs = v :: r ∧ t v σ H fun σ' H' => u r σ' H' Q
theorem pgs_nil : PGs X [] gNil := by
  intro pins s σ H vs us Q I r h
  obtain ⟨e, h⟩ := h
  subst e
  cases r
  exact assignInOrder_nil ⟨σ, H, I, h⟩
theorem pgs_cons {e : Expr} {es : List Expr} {t : TG} {u : TGs} (h1 : PG X e t) (h2 : PGs X es u)
    (hs : (assignEach (e :: es) X.env).map (·.2) = assign e X.env :: (assignEach es X.env).map (·.2) := by rfl) : PGs X (e :: es) (gCons t u) := by
  intro pins s σ H vs us Q I r h
  obtain ⟨v, vr, e1, h⟩ := h
  subst e1
  cases r with
  | cons r rr =>
    rw [hs]
    refine assignInOrder_cons (thn (h1 pins s σ H _ _ _ I r h) fun _ s1 ⟨σ1, H1, I1, q1⟩ => ?_)
    exact h2 pins s1 σ1 H1 _ _ Q I1 rr q1
def gTup (K : PySem.W.Frag) (n : Nat) (t : TGs) : TG := fun v σ H Q => ∃ a xs, v = .ref a ∧ SqT K H a xs ∧ xs.length = n ∧ t xs σ H Q
theorem pg_tup {es : List Expr} {k : Nat} {t : TGs} {n : Nat} (hc : X.calm = true) (h : PGs X es t)
    (hn : (assignEach es X.env).length = n := by rfl) (hst : (assignEach es X.env).findIdx? (·.1) = none := by rfl) : PG X (.Tuple es k pos) (gTup X.K n t) := by
  intro pins s σ H v u Q I r hw
  obtain ⟨a, xs, e1, hq, hl, hw⟩ := hw
  subst e1
  cases r
  obtain ⟨its, rv, ht, hz⟩ := I.tuple hq
  refine assign_Tuple_tuple (I.ok.hd hc) ht (by simp [hn, ← hl, rv.length]) hst fun h' hx => ?_
  have I1 : Inv X pins σ H { s with heap := h' } := I.kept (t' := s.toks) fun b o e => hx b o (Nat.ne_of_lt (Heap.lt_size e)) e
  exact h pins _ σ H xs _ Q I1 (by simpa using rv) hw
def gSub (to ti : TE) (t : TSet) : TG := fun v σ H Q => to σ H fun o H1 => ti σ H1 fun i H2 => t o i v H2 fun H3 => Q σ H3
theorem pg_sub {o i : Expr} {to ti : TE} {t : TSet} (ho : PE X o to) (hi : PE X i ti) (hs : PSet X t)
    (ha : ∀ v, assign (.Subscript o i pos) X.env v = (do
      let ov ← holding [v] (eval o X.env)
      let iv ← holding [v, ov] (eval i X.env)
      standAt pos
      holding [v, ov, iv] (setItem ov iv v)
      release [v, ov, iv] []) := by intro _; rfl) : PG X (.Subscript o i pos) (gSub to ti t) := by
  intro pins s σ H v u Q I r h
  rw [ha]
  refine wpAny_bind (wpAny_holding (thn (ho pins s σ H _ I h) fun ov s1 ⟨x, H1, I1, r1, q1⟩ => ?_))
  refine wpAny_bind (wpAny_holding (thn (hi pins s1 σ H1 _ I1 q1) fun iv s2 ⟨y, H2, I2, r2, q2⟩ => ?_))
  refine wpAny_bind (wpAny_standAt (wpAny_bind (wpAny_holding (thn (hs pins s2 σ H2 x y v ov iv u _ I2 r1 r2 r q2) fun _ s3 ⟨H3, I3, q3⟩ => ?_))))
  exact wpAny_release ⟨σ, H3, I3, q3⟩
def tAsg (te : TE) (g : TG) : TS := fun D σ H => te σ H fun x H1 => g x σ H1 D.nx
theorem ps_asg {tg e : Expr} {te : TE} {g : TG} (he : PE X e te) (hg : PG X tg g) (hs : swapsWithSole [tg] e pos.line X.env = pure false := by rfl) (hw : swappedStores [tg] e X.env = pure none := by rfl)
    (h1 : (assignEach [tg] X.env).map (·.2) = [assign tg X.env] := by rfl) : PS X (.Assign [tg] e pos) (tAsg te g) := by
  intro pins s σ H D I h
  refine wpAny_Assign_stores (thn (he pins s σ H _ I h) fun v s1 ⟨x, H1, I1, r1, q1⟩ => ?_) hs hw
  rw [h1]
  exact thn (hg pins s1 σ H1 x v _ I1 r1 q1) fun _ s2 q => q
theorem ps_set {i : Nat} {x : Str} {e : Expr} {te : TE} {pos' : Pos} (hN : X.N.Nodup) (hi : X.N[i]? = some x) (hx : Loc X.env.scope x) (he : PE X e te) (hs : swapsWith e (some (.Name x pos')) pos.line X.env = pure false := by rfl) (hf : X.fn x = true ∨ X.env.scope.names.lookup x = some .local := by first | exact .inl rfl | exact .inr rfl | assumption) :
    PS X (.Assign [.Name x pos'] e pos) (tAsg te (gName i)) := by
  intro pins s σ H D I h
  refine wpAny_Assign_Name (thn (he pins s σ H _ I h) fun v s1 ⟨y, H1, I1, r1, q1⟩ => ?_) hs
  exact store_ok I1 hN hi hx r1 (fun s2 I2 => ⟨_, H1, I2, q1⟩) hf
end
section
variable {X : Cx} {pos : Pos}
end
structure It where
  go : Nat → Hp → Prop
  yld : Nat → Hp → V → Hp → Prop
  stop : Nat → Hp → Prop
def FpOk (X : Cx) (pins : List (Addr × Obj)) (H : Hp) (b : Addr) : Prop :=
  H b = none ∧ b ≠ X.env.locals ∧ b ∉ X.fs ∧ (b ∈ X.ex ∨ X.s₀.heap.objs.size ≤ b) ∧ (∀ x c, X.env.cells.lookup x = some c → c ≠ b) ∧ ∀ p ∈ X.pn ++ pins, p.1 ≠ b
theorem Inv.fpOk {X : Cx} {pins : List (Addr × Obj)} {σ : St} {H H' : Hp} {s : Shared} {b : Addr} (I : Inv X pins σ H s) (hb : s.heap.objs.size ≤ b) (hn : H' b = none) : FpOk X pins H' b := by
  refine ⟨hn, Nat.ne_of_gt (Nat.lt_of_lt_of_le I.lt hb), I.nofs hb, .inr (Nat.le_trans I.sz hb), fun x c e z => ?_, fun p hp z => ?_⟩
  · obtain ⟨v, q⟩ := I.cell x c e
    exact absurd (Nat.lt_of_lt_of_le q.lt (by rw [z]; exact hb)) (Nat.lt_irrefl _)
  · exact absurd (Nat.lt_of_lt_of_le (Heap.lt_size (I.pin p hp).1) (by rw [z]; exact hb)) (Nat.lt_irrefl _)
structure Turn (P : Program) (w : World) (K : PySem.W.Frag) (tg : Expr) (J : It) (fp : List Addr) (it : Addr) (tn : Nat → Heap → Prop) : Prop where
  mem : it ∈ fp
  obj : ∀ i h, tn i h → ∀ b ∈ fp, ∃ o, h.get? b = some o ∧ ∀ v, o.data ≠ .cell v
  keep : ∀ i h h', tn i h → (∀ b ∈ fp, ∀ o, h.get? b = some o → h'.get? b = some o) → tn i h'
  item : ∀ (X : Cx), X.prog = P → X.w = w → X.K = K → X.calm = true → ∀ (i : Nat) (pins : List (Addr × Obj)) (s : Shared) (σ : St) (H : Hp) (E : Value → Shared → Prop), Inv X pins σ H s → (∀ b ∈ fp, FpOk X pins H b) → tn i s.heap → J.go i H →
    wpAny (model P w) X.A (pyNext (.ref it)) (fun r s1 => ∃ u, r = some u ∧
      wpAny (model P w) X.A (letOwnedTupleGo tg (.ref it) u) (fun _ s2 => ∃ x H', Inv X pins σ H' s2 ∧ RelV x u ∧ J.yld i H x H' ∧ tn (i + 1) s2.heap ∧ ∀ b ∈ fp, H' b = none) E s1) E s
  done : ∀ (X : Cx), X.prog = P → X.w = w → X.K = K → X.calm = true → ∀ (i : Nat) (pins : List (Addr × Obj)) (s : Shared) (σ : St) (H : Hp) (E : Value → Shared → Prop), Inv X pins σ H s → (∀ b ∈ fp, FpOk X pins H b) → tn i s.heap → J.stop i H →
    wpAny (model P w) X.A (pyNext (.ref it)) (fun r s1 => r = none ∧ Inv X pins σ H s1) E s
  self : ∀ (A : Around) (i : Nat) (s : Shared) (Q : Value → Shared → Prop) (E : Value → Shared → Prop), tn i s.heap → Q (.ref it) s → wpAny (model P w) A (pyIter (.ref it)) Q E s
abbrev TI := St → Hp → (It → Hp → Prop) → Prop
def PIE (X : Cx) (pins : List (Addr × Obj)) (σ : St) (tg : Expr) (R : It → Hp → Prop) (itv : Value) (s2 : Shared) : Prop :=
  ∃ (it : Addr) (fp : List Addr) (tn : Nat → Heap → Prop) (J : It) (H' : Hp), itv = .ref it ∧ Inv X pins σ H' s2 ∧ Turn X.prog X.w X.K tg J fp it tn ∧ tn 0 s2.heap ∧ (∀ b ∈ fp, FpOk X pins H' b) ∧ R J H'
def PI (X : Cx) (tg iter : Expr) (wi : TI) : Prop :=
  ∀ (pins : List (Addr × Obj)) (s : Shared) (σ : St) (H : Hp) (R : It → Hp → Prop), Inv X pins σ H s → wi σ H R →
    wpAny (model X.prog X.w) X.A (eval iter X.env) (fun v s1 => wpAny (model X.prog X.w) X.A (pyIter v) (PIE X pins σ tg R) X.xe s1) X.xe s
theorem go_of {M : Model} {A : Around} {E : Value → Shared → Prop} {s : Shared} {tg : Expr} {it : Addr} {u : Value} {o : Obj} {n : String} {vs : Array Value} {Q : Unit → Shared → Prop} (ho : s.heap.get? it = some o) (hc : o.cls = .type n) (hd : o.data = .fields vs)
    (hn : ["enumerate", "zip", "dict_itemiterator", "dict_reverseitemiterator", "odict_iterator", "itertools.zip_longest", "itertools.pairwise"].contains n = false) (hQ : Q () s) : wpAny M A (letOwnedTupleGo tg (.ref it) u) Q E s := by
  unfold letOwnedTupleGo
  cases tg <;> first
    | exact wpAny_pure hQ
    | (cases u <;> first
        | exact wpAny_pure hQ
        | (refine wpAny_bind (wpAny_load ho ?_)
           rw [hc, hd]
           show wpAny M A (if (["enumerate", "zip", "dict_itemiterator", "dict_reverseitemiterator", "odict_iterator", "itertools.zip_longest", "itertools.pairwise"].contains n && vs[0]? == some (rawInt _)) = true then _ else _) Q E s
           rw [if_neg (by intro h; rw [hn, Bool.false_and] at h; cases h)]
           exact wpAny_pure hQ))
def Itl (K : PySem.W.Frag) (a : Addr) : It :=
  ⟨fun i H => ∃ xs x, SqL K H a xs ∧ xs[i]? = some x, fun i H x H' => H' = H ∧ ∀ xs, SqL K H a xs → xs[i]? = some x, fun i H => ∃ xs, SqL K H a xs ∧ xs.length ≤ i⟩
def Itt (K : PySem.W.Frag) (a : Addr) : It :=
  ⟨fun i H => ∃ xs x, SqT K H a xs ∧ xs[i]? = some x, fun i H x H' => H' = H ∧ ∀ xs, SqT K H a xs → xs[i]? = some x, fun i H => ∃ xs, SqT K H a xs ∧ xs.length ≤ i⟩
def Itr (lo : Int) (n : Nat) : It := ⟨fun i _ => i < n, fun i H x H' => H' = H ∧ x = .int (lo + i), fun i _ => n ≤ i⟩
theorem turn_list {P : Program} {w : World} {K : PySem.W.Frag} {tg : Expr} (a it : Addr) : Turn P w K tg (Itl K a) [it] it (fun i h => h.IsListIter it a i) where
  mem := by simp
  obj := fun i h st b hb => by
    have e : b = it := by simpa using hb
    subst e
    obtain ⟨o, e, c, d⟩ := st
    exact ⟨o, e, fun v z => by rw [d] at z; cases z⟩
  keep := fun i h h' st k => st.at fun o e => k it (by simp) o e
  item := by
    intro X hP hw hK hc i pins s σ H E I hf st hg
    subst hP hw hK
    obtain ⟨xs, x, hq, hx⟩ := hg
    obtain ⟨its, rv, p, hz⟩ := I.list hq
    obtain ⟨u, hu, ru⟩ := rv.get hx
    obtain ⟨f0, f1, f2, f3, f4, f5⟩ := hf it (by simp)
    refine wpAny_pyNext_list_item st p.isList (x := u) (by simpa using hu) fun h' st' sb => ?_
    have I1 : Inv X pins σ H { s with heap := h' } := I.turned (t' := s.toks) (fun b o hb e => (sb.2 b hb).trans e) f0 f1 f3 f4 f5
    obtain ⟨o, e, c, d⟩ := id st'
    exact ⟨u, rfl, go_of (s := { s with heap := h' }) e c d (by decide) ⟨x, H, I1, ru, ⟨rfl, fun ys hy => by rw [I.list_inj hy hq]; exact hx⟩, st', fun b hb => (hf b hb).1⟩⟩
  done := by
    intro X hP hw hK hc i pins s σ H E I hf st hg
    subst hP hw hK
    obtain ⟨xs, hq, hx⟩ := hg
    obtain ⟨its, rv, p, hz⟩ := I.list hq
    obtain ⟨f0, f1, f2, f3, f4, f5⟩ := hf it (by simp)
    have hl := rv.length
    exact wpAny_pyNext_list_end (I.ok.hd hc) st p.isList (by simp; omega) fun h' eb => ⟨rfl, I.turned (t' := s.toks) (fun b o hb e => eb b o hb e) f0 f1 f3 f4 f5⟩
  self := fun _ _ _ _ _ st h => wpAny_pyIter_listiter st h
theorem turn_tuple {P : Program} {w : World} {K : PySem.W.Frag} {tg : Expr} (a it : Addr) : Turn P w K tg (Itt K a) [it] it (fun i h => h.IsTupleIter it a i) where
  mem := by simp
  obj := fun i h st b hb => by
    have e : b = it := by simpa using hb
    subst e
    obtain ⟨o, e, c, d⟩ := st
    exact ⟨o, e, fun v z => by rw [d] at z; cases z⟩
  keep := fun i h h' st k => st.at fun o e => k it (by simp) o e
  item := by
    intro X hP hw hK hc i pins s σ H E I hf st hg
    subst hP hw hK
    obtain ⟨xs, x, hq, hx⟩ := hg
    obtain ⟨its, rv, p, hz⟩ := I.tuple hq
    obtain ⟨u, hu, ru⟩ := rv.get hx
    obtain ⟨f0, f1, f2, f3, f4, f5⟩ := hf it (by simp)
    refine wpAny_pyNext_tuple_item st (show s.heap.IsTuple a its.toArray from p) (x := u) (by simpa using hu) fun h' st' sb => ?_
    have I1 : Inv X pins σ H { s with heap := h' } := I.turned (t' := s.toks) (fun b o hb e => (sb.2 b hb).trans e) f0 f1 f3 f4 f5
    obtain ⟨o, e, c, d⟩ := id st'
    exact ⟨u, rfl, go_of (s := { s with heap := h' }) e c d (by decide) ⟨x, H, I1, ru, ⟨rfl, fun ys hy => by rw [I.tuple_inj hy hq]; exact hx⟩, st', fun b hb => (hf b hb).1⟩⟩
  done := by
    intro X hP hw hK hc i pins s σ H E I hf st hg
    subst hP hw hK
    obtain ⟨xs, hq, hx⟩ := hg
    obtain ⟨its, rv, p, hz⟩ := I.tuple hq
    obtain ⟨f0, f1, f2, f3, f4, f5⟩ := hf it (by simp)
    have hl := rv.length
    exact wpAny_pyNext_tuple_end (I.ok.hd hc) st (show s.heap.IsTuple a its.toArray from p) (by simp; omega) fun h' eb => ⟨rfl, I.turned (t' := s.toks) (fun b o hb e => eb b o hb e) f0 f1 f3 f4 f5⟩
  self := fun _ _ _ _ _ st h => wpAny_pyIter_tupleiter st h
theorem turn_range {P : Program} {w : World} {K : PySem.W.Frag} {tg : Expr} (it : Addr) (lo : Int) (n : Nat) : Turn P w K tg (Itr lo n) [it] it (fun i h => IsRangeIter h it (lo + (i : Nat) * 1) ((n : Int) - (i : Nat)) 1) where
  mem := by simp
  obj := fun i h st b hb => by
    have e : b = it := by simpa using hb
    subst e
    exact ⟨_, st, fun v z => by
      have z' : Data.fields _ = Data.cell v := z
      cases z'⟩
  keep := fun i h h' st k => k it (by simp) _ st
  item := by
    intro X hP hw hK hc i pins s σ H E I hf st hg
    subst hP hw hK
    obtain ⟨f0, f1, f2, f3, f4, f5⟩ := hf it (by simp)
    have W := Walks.range (prog := X.prog) (w := X.w) (I.ok.hd hc) it lo 1 n
    refine W.item i s _ _ hg st fun v h' tk hv st' kk => ?_
    obtain ⟨t, rfl⟩ := hv
    have I1 : Inv X pins σ H { s with heap := h', toks := tk } := I.turned (fun b o hb e => kk b o (by simpa using hb) e) f0 f1 f3 f4 f5
    refine ⟨_, rfl, go_of (s := { s with heap := h', toks := tk }) (n := "range_iterator") st' rfl rfl (by decide) ⟨.int (lo + i), H, I1, ⟨t, ?_⟩, ⟨rfl, rfl⟩, st', fun b hb => (hf b hb).1⟩⟩
    rw [Int.mul_one]
  done := by
    intro X hP hw hK hc i pins s σ H E I hf st hg
    subst hP hw hK
    obtain ⟨f0, f1, f2, f3, f4, f5⟩ := hf it (by simp)
    exact wpAny_pyNext_range_end (I.ok.hd hc) st (by have : n ≤ i := hg; omega) fun h' eb => ⟨rfl, I.turned (t' := s.toks) (fun b o hb e => eb b o hb e) f0 f1 f3 f4 f5⟩
  self := fun _ _ _ _ _ st h => wpAny_pyIter_rangeiter st h
end L2
namespace L2
open PySem PySem.Spec PyProof.Rows
section
variable {X : Cx} {tg : Expr}
theorem range_it {pins : List (Addr × Obj)} {σ : St} {H : Hp} {s : Shared} {R : It → Hp → Prop} {E : Value → Shared → Prop} {lo hi : Int} {t u v : Tok} {tk : Nat} (I : Inv X pins σ H s) (h1 : -(2 ^ 62) ≤ lo) (h2 : lo < 2 ^ 62) (h3 : -(2 ^ 62) ≤ hi) (h4 : hi < 2 ^ 62)
    (q : R (Itr lo (hi - lo).toNat) H) : wpAny (model X.prog X.w) X.A (pyIter (.ref s.heap.objs.size)) (PIE X pins σ tg R) E { s with heap := s.heap.push { cls := .type "range", data := .fields #[.int lo t, .int hi u, .int 1 v] }, toks := tk } := by
  refine wpAny_pyIter_range (IsRange.new ..) (small_one h1 h2 h3 h4) ?_
  have I1 : Inv X pins σ H { s with heap := s.heap.push { cls := .type "range", data := .fields #[.int lo t, .int hi u, .int 1 v] }, toks := tk } := I.kept fun b o e => Heap.get?_push_of_some _ e
  refine ⟨(s.heap.push { cls := .type "range", data := .fields #[.int lo t, .int hi u, .int 1 v] }).objs.size, [(s.heap.push { cls := .type "range", data := .fields #[.int lo t, .int hi u, .int 1 v] }).objs.size], _, _, H, rfl,
    I1.kept (t' := tk) fun b o e => Heap.get?_push_of_some _ e, turn_range _ lo (hi - lo).toNat, ?_, fun b hb => ?_, q⟩
  · have e1 : lo + ((0 : Nat) : Int) * 1 = lo := by simp
    have e2 : (((hi - lo).toNat : Nat) : Int) - ((0 : Nat) : Int) = Builtin.Range.rangeSize lo hi 1 := by rw [rangeSize_one]; split <;> omega
    show IsRangeIter _ _ (lo + ((0 : Nat) : Int) * 1) ((((hi - lo).toNat : Nat) : Int) - ((0 : Nat) : Int)) 1
    rw [e1, e2]
    exact Heap.get?_push_size _ rfl
  · have e : b = (s.heap.push { cls := .type "range", data := .fields #[.int lo t, .int hi u, .int 1 v] }).objs.size := by simpa using hb
    subst e
    exact I1.fpOk (Nat.le_refl _) (I1.hok.fresh (Nat.le_refl _))
def iRng1 (ta : TA) : TI := fun σ H R => ta σ H fun vs H1 => ∃ j : Int, vs = [.int j] ∧ -(2 ^ 62) ≤ j ∧ j < 2 ^ 62 ∧ R (Itr 0 j.toNat) H1
def iRng2 (ta : TA) : TI := fun σ H R => ta σ H fun vs H1 => ∃ i j : Int, vs = [.int i, .int j] ∧ (-(2 ^ 62) ≤ i ∧ i < 2 ^ 62 ∧ -(2 ^ 62) ≤ j ∧ j < 2 ^ 62) ∧ R (Itr i (j - i).toNat) H1
theorem pi_range1 {a : Expr} {ta : TA} {p pos : Pos} (hg : Gl X "range") (hm : X.mg "range" = none) (ha : PA X [a] ta) (hs : starEach [a] X.env = [(false, eval a X.env)] := by rfl) : PI X tg (.Call (.Name "range" p) [a] [] pos) (iRng1 ta) := by
  intro pins s σ H R I h
  refine Call_ (ld_blt I hg hm boot_range (PyProof.Rows.callWith_type1 (thn (ha pos pins s σ H _ I h) fun us s1 ⟨vs, H1, I1, r1, q1⟩ => ?_) hs rfl))
  obtain ⟨j, e, q1, q2, q⟩ := q1
  subst e
  cases r1 with
  | cons r rr =>
    cases rr
    obtain ⟨t, rfl⟩ := r
    exact call_range_1 (range_it I1 (by omega) (by omega) q1 q2 (by simpa using q))
theorem pi_range2 {a b : Expr} {ta : TA} {p pos : Pos} (hg : Gl X "range") (hm : X.mg "range" = none) (ha : PA X [a, b] ta) (hs : starEach [a, b] X.env = [(false, eval a X.env), (false, eval b X.env)] := by rfl) (hs2 : starEach [b] X.env = [(false, eval b X.env)] := by rfl) :
    PI X tg (.Call (.Name "range" p) [a, b] [] pos) (iRng2 ta) := by
  intro pins s σ H R I h
  refine Call_ (ld_blt I hg hm boot_range (PyProof.Rows.callWith_type1 (thn (ha pos pins s σ H _ I h) fun us s1 ⟨vs, H1, I1, r1, q1⟩ => ?_) (by rw [hs, hs2]) (by rw [hs2]; rfl)))
  obtain ⟨i, j, e, ⟨q1, q2, q3, q4⟩, q⟩ := q1
  subst e
  cases r1 with
  | cons r rr =>
    cases rr with
    | cons r' rr =>
      cases rr
      obtain ⟨t, rfl⟩ := r
      obtain ⟨t', rfl⟩ := r'
      exact call_range_2 (range_it I1 q1 q2 q3 q4 q)
def tFor (wi : TI) (g : TG) (tb : TS) : TS := fun D σ H => wi σ H fun J H1 => ∃ W : Nat → Nat → St → Hp → Prop, (∃ m, W 0 m σ H1) ∧ ∀ i m σ H, W i m σ H →
  (J.stop i H ∧ D.nx σ H) ∨ (J.go i H ∧ ∃ N : St → Hp → Prop, (∀ σ' H', N σ' H' → ∃ m', m' < m ∧ W (i + 1) m' σ' H') ∧ ∀ x H', J.yld i H x H' → g x σ H' fun σ2 H2 => tb { D with nx := N, ct := N, bk := D.nx } σ2 H2)
def pinsAt (fp : List Addr) (h : Heap) : List (Addr × Obj) := fp.filterMap fun b => (h.get? b).map fun o => (b, o)
theorem mem_pinsAt {fp : List Addr} {h : Heap} {b : Addr} {o : Obj} (hb : b ∈ fp) (e : h.get? b = some o) : (b, o) ∈ pinsAt fp h := List.mem_filterMap.mpr ⟨b, hb, by rw [e]; rfl⟩
theorem of_pinsAt {fp : List Addr} {h : Heap} {p : Addr × Obj} (hp : p ∈ pinsAt fp h) : p.1 ∈ fp ∧ h.get? p.1 = some p.2 := by
  obtain ⟨b, hb, e⟩ := List.mem_filterMap.mp hp
  cases q : h.get? b with
  | none => rw [q] at e; cases e
  | some o =>
    rw [q] at e
    have e' : (b, o) = p := Option.some.inj e
    subst e'
    exact ⟨hb, q⟩
theorem Inv.pinned {pins : List (Addr × Obj)} {σ : St} {H : Hp} {s : Shared} {fp : List Addr} (I : Inv X pins σ H s) (hf : ∀ b ∈ fp, FpOk X pins H b) (ho : ∀ b ∈ fp, ∃ o, s.heap.get? b = some o ∧ ∀ v, o.data ≠ .cell v) : Inv X (pins ++ pinsAt fp s.heap) σ H s :=
  I.pins_of fun p hp => (List.mem_append.mp hp).elim (fun z => I.pin p (List.mem_append_right _ z)) fun z => by
    obtain ⟨hb, e⟩ := of_pinsAt z
    obtain ⟨f0, f1, f2, _⟩ := hf p.1 hb
    obtain ⟨o, e', d⟩ := ho p.1 hb
    rw [e] at e'; cases e'
    exact ⟨e, f0, f1, f2, d⟩
theorem Inv.unpinned {pins pl : List (Addr × Obj)} {σ : St} {H : Hp} {s : Shared} (I : Inv X (pins ++ pl) σ H s) : Inv X pins σ H s := I.pins_of fun p hp => I.pin p (List.mem_append_right _ (List.mem_append_left _ hp))
theorem ps_for {iter : Expr} {body : List Stmt} {wi : TI} {g : TG} {tb : TS} {pos : Pos} (hp : PassesOwn (model X.prog X.w) X.A X.env X.xe) (hc : X.calm = true) (hi : PI X tg iter wi) (hg : PG X tg g) (hb : PSs X body tb)
    (hs : ∀ x, foldedSetIterable iter X.env x = pure x := by intro _; rfl) : PS X (.For tg iter body [] pos) (tFor wi g tb) := by
  intro pins s σ H D I h
  refine wpAny_For (thn (hi pins s σ H _ I h) fun v s1 h1 => thn h1 fun itv s2 h2 => ?_) hs
  obtain ⟨it, fp, tn, J, H2, e, I2, T, st2, f2, W, ⟨m0, w0⟩, turn⟩ := h2
  subst e
  have stat : ∀ {H' : Hp}, (∀ b ∈ fp, H' b = none) → ∀ b ∈ fp, FpOk X pins H' b := fun hn b hb => ⟨hn b hb, (f2 b hb).2⟩
  refine codeAny_forLoop_any (fun n s' => ∃ i σ' H', Inv X pins σ' H' s' ∧ tn i s'.heap ∧ (∀ b ∈ fp, H' b = none) ∧ W i n σ' H') ?_ m0 ⟨0, σ, H2, I2, st2, fun b hb => (f2 b hb).1, w0⟩
  rintro n s3 ⟨i, σ3, H3, I3, st3, fr3, w3⟩
  rcases turn i n σ3 H3 w3 with ⟨stop, qn⟩ | ⟨go, N, hN, step⟩
  · refine wpAny_passesOwn hp (thn (T.done X rfl rfl rfl hc i pins s3 σ3 H3 X.xe I3 (stat fr3) st3 stop) fun r s4 ⟨hr, I4⟩ => ?_)
    subst hr
    exact wpAny_execs_nil ⟨σ3, H3, I4, qn⟩
  · refine wpAny_passesOwn hp (thn (T.item X rfl rfl rfl hc i pins s3 σ3 H3 X.xe I3 (stat fr3) st3 go) fun r s4 ⟨u, hr, h4⟩ => ?_)
    subst hr
    refine wpAny_passesOwn hp (thn h4 fun _ s5 ⟨x, H5, I5, r5, y5, st5, fr5⟩ => ?_)
    have I5' := I5.pinned (stat fr5) (T.obj _ _ st5)
    refine wpAny_passesOwn hp (thn (hg _ s5 σ3 H5 x u _ I5' r5 (step x H5 y5)) fun _ s6 ⟨σ6, H6, I6, q6⟩ => ?_)
    refine wpAny_passesOwn hp (thn (hb _ s6 σ6 H6 _ I6 q6) fun f s7 q7 => ?_)
    have again : ∀ {σ7 : St} {H7 : Hp}, Inv X (pins ++ pinsAt fp s5.heap) σ7 H7 s7 → N σ7 H7 → ∃ m, m < n ∧ ∃ i σ' H', Inv X pins σ' H' s7 ∧ tn i s7.heap ∧ (∀ b ∈ fp, H' b = none) ∧ W i m σ' H' := fun {σ7 H7} I7 n7 => by
      obtain ⟨m', hm, w7⟩ := hN σ7 H7 n7
      refine ⟨m', hm, i + 1, σ7, H7, I7.unpinned, T.keep _ _ _ st5 fun b hb o e => (I7.pin (b, o) (List.mem_append_right _ (List.mem_append_right _ (mem_pinsAt hb e)))).1, fun b hb => ?_, w7⟩
      obtain ⟨o, e, d⟩ := T.obj _ _ st5 b hb
      exact (I7.pin (b, o) (List.mem_append_right _ (List.mem_append_right _ (mem_pinsAt hb e)))).2.1
    cases f with
    | next => obtain ⟨σ7, H7, I7, n7⟩ := q7; exact again I7 n7
    | cont => obtain ⟨σ7, H7, I7, n7⟩ := q7; exact again I7 n7
    | brk => obtain ⟨σ7, H7, I7, q7⟩ := q7; exact ⟨σ7, H7, I7.unpinned, q7⟩
    | ret v => obtain ⟨x7, σ7, H7, I7, r7, q7⟩ := q7; exact ⟨x7, σ7, H7, I7.unpinned, r7, q7⟩
end
end L2
namespace L2
open PySem PySem.Spec PyProof.Rows
abbrev R2 := V → V → Hp → VK → Prop
def OpR (X : Cx) (f : Value → Value → Sem Value) (r : R2) : Prop :=
  ∀ (pins : List (Addr × Obj)) (s : Shared) (σ : St) (H : Hp) (x y : V) (v u : Value) (Q : VK), Inv X pins σ H s → RelV x v → RelV y u → r x y H Q →
    wpAny (model X.prog X.w) X.A (f v u) (EP X pins σ Q) X.xe s
def UnR (X : Cx) (f : Value → Sem Value) (r : V → Hp → VK → Prop) : Prop :=
  ∀ (pins : List (Addr × Obj)) (s : Shared) (σ : St) (H : Hp) (x : V) (v : Value) (Q : VK), Inv X pins σ H s → RelV x v → r x H Q →
    wpAny (model X.prog X.w) X.A (f v) (EP X pins σ Q) X.xe s
def CallR (X : Cx) (f : Value) (r : List V → Hp → VK → Prop) : Prop :=
  ∀ (pins : List (Addr × Obj)) (s : Shared) (σ : St) (H : Hp) (xs : List V) (us : List Value) (Q : VK), Inv X pins σ H s → Vals xs us → r xs H Q →
    wpAny (model X.prog X.w) X.A (call f us) (EP X pins σ Q) X.xe s
def tOp (r : R2) (ta tb : TE) : TE := fun σ H Q => ta σ H fun x H1 => tb σ H1 fun y H2 => r x y H2 Q
def tUn (r : V → Hp → VK → Prop) (ta : TE) : TE := fun σ H Q => ta σ H fun x H1 => r x H1 Q
def rI (C : Int → Int → Prop) (g : Int → Int → V) : R2 := fun x y H Q => ∃ i j, x = .int i ∧ y = .int j ∧ C i j ∧ Q (g i j) H
def rI0 (g : Int → Int → V) : R2 := fun x y H Q => ∃ i j, x = .int i ∧ y = .int j ∧ Q (g i j) H
def rU (g : Int → V) : V → Hp → VK → Prop := fun x H Q => ∃ i, x = .int i ∧ Q (g i) H
section
variable {X : Cx} {a b c : Expr} {ta tb tc : TE} {pos : Pos}
theorem binT (ha : PE X a ta) (hb : PE X b tb) {pins : List (Addr × Obj)} {s : Shared} {σ : St} {H : Hp} {R : V → V → Hp → Prop} (I : Inv X pins σ H s)
    (h : ta σ H fun x H1 => tb σ H1 fun y H2 => R x y H2) {Q : Value → Shared → Prop} {f : Value → Value → Sem Value}
    (hf : ∀ v u s2 x y H2, Inv X pins σ H2 s2 → RelV x v → RelV y u → R x y H2 → wpAny (model X.prog X.w) X.A (f v u) Q X.xe s2) :
    wpAny (model X.prog X.w) X.A (eval a X.env) (fun v s₁ => wpAny (model X.prog X.w) X.A (eval b X.env) (fun u s₂ => wpAny (model X.prog X.w) X.A (f v u) Q X.xe s₂) X.xe s₁) X.xe s := by
  refine thn (ha pins s σ H _ I h) fun v s1 ⟨x, H1, I1, r1, q1⟩ => ?_
  refine thn (hb pins s1 σ H1 _ I1 q1) fun u s2 ⟨y, H2, I2, r2, q2⟩ => ?_
  exact hf v u s2 x y H2 I2 r1 r2 q2
theorem pe_op {op : Operator} {r : R2} (ho : OpR X (binaryOp op) r) (ha : PE X a ta) (hb : PE X b tb) : PE X (.BinOp a op b pos) (tOp r ta tb) := by
  intro pins s σ H Q I h
  exact wpAny_BinOp (binT ha hb I h fun v u s2 x y H2 I2 rx ry q => ho pins s2 σ H2 x y v u Q I2 rx ry q)
theorem pe_un {op : UnaryOp} {r : V → Hp → VK → Prop} (ho : UnR X (unaryOp op) r) (ha : PE X a ta) : PE X (.UnaryOp op a pos) (tUn r ta) := by
  intro pins s σ H Q I h
  exact UnaryOp_ (thn (ha pins s σ H _ I h) fun v s1 ⟨x, H1, I1, r1, q1⟩ => ho pins s1 σ H1 x v Q I1 r1 q1)
theorem opI {f : Value → Value → Sem Value} {C : Int → Int → Prop} {g : Int → Int → Int}
    (rule : ∀ (i j : Int) (t u : Tok) (s : Shared) (Q : Value → Shared → Prop) (E : Value → Shared → Prop), C i j → Q (.int (g i j) s.toks) { s with toks := s.toks + 1 } → wpAny (model X.prog X.w) X.A (f (.int i t) (.int j u)) Q E s) :
    OpR X f (rI C fun i j => .int (g i j)) := by
  intro pins s σ H x y v u Q I rx ry h
  obtain ⟨i, j, rfl, rfl, hc, q⟩ := h
  obtain ⟨t, rfl⟩ := rx
  obtain ⟨t', rfl⟩ := ry
  exact rule i j t t' s _ _ hc ⟨.int (g i j), H, I.tok _, ⟨_, rfl⟩, q⟩
theorem opI0 {f : Value → Value → Sem Value} {g : Int → Int → Int}
    (rule : ∀ (i j : Int) (t u : Tok) (s : Shared) (Q : Value → Shared → Prop) (E : Value → Shared → Prop), Q (.int (g i j) s.toks) { s with toks := s.toks + 1 } → wpAny (model X.prog X.w) X.A (f (.int i t) (.int j u)) Q E s) :
    OpR X f (rI0 fun i j => .int (g i j)) := by
  intro pins s σ H x y v u Q I rx ry h
  obtain ⟨i, j, rfl, rfl, q⟩ := h
  obtain ⟨t, rfl⟩ := rx
  obtain ⟨t', rfl⟩ := ry
  exact rule i j t t' s _ _ ⟨.int (g i j), H, I.tok _, ⟨_, rfl⟩, q⟩
theorem opB0 {f : Value → Value → Sem Value} {g : Int → Int → Bool}
    (rule : ∀ (i j : Int) (t u : Tok) (s : Shared) (Q : Value → Shared → Prop) (E : Value → Shared → Prop), Q (.bool (g i j)) s → wpAny (model X.prog X.w) X.A (f (.int i t) (.int j u)) Q E s) :
    OpR X f (rI0 fun i j => .bl (g i j)) := by
  intro pins s σ H x y v u Q I rx ry h
  obtain ⟨i, j, rfl, rfl, q⟩ := h
  obtain ⟨t, rfl⟩ := rx
  obtain ⟨t', rfl⟩ := ry
  exact rule i j t t' s _ _ ⟨.bl (g i j), H, I, rfl, q⟩
def CDiv (i j : Int) : Prop := 0 < j ∧ j < 1073741824
def CMul (i j : Int) : Prop := (-(2 ^ 64) < i ∧ i < 2 ^ 64) ∨ (-(2 ^ 64) < j ∧ j < 2 ^ 64)
theorem CMul.ok {i j : Int} (h : CMul i j) : IntMulOk i j := by
  rcases h with ⟨h1, h2⟩ | ⟨h1, h2⟩
  · exact .of_left (intBits_le_64 h1 h2)
  · exact .of_right (intBits_le_64 h1 h2)
theorem op_add : OpR X (binaryOp .Add) (rI0 fun i j => .int (i + j)) := opI0 fun _ _ _ _ _ _ _ q => add_int q
theorem op_sub : OpR X (binaryOp .Sub) (rI0 fun i j => .int (i - j)) := opI0 fun _ _ _ _ _ _ _ q => sub_int q
theorem op_mul : OpR X (binaryOp .Mult) (rI CMul fun i j => .int (i * j)) := opI fun _ _ _ _ _ _ _ hc q => mul_int q hc.ok
theorem op_fdiv : OpR X (binaryOp .FloorDiv) (rI CDiv fun i j => .int (i / j)) := opI fun i j _ _ _ _ _ hc q => by
  have h1 : (0 : Int) < j := hc.1
  have h2 : j < 1073741824 := hc.2
  exact floordiv_int (by omega) (by rw [Int.fdiv_eq_ediv_of_nonneg i (by omega)]; exact q) (.inl (PyProof.noPylong_small (by omega)))
theorem op_mod : OpR X (binaryOp .Mod) (rI (fun _ j => 0 < j) fun i j => .int (i % j)) := opI fun i j _ _ _ _ _ hc q => by
  have h1 : (0 : Int) < j := hc
  exact mod_int' (by omega) (by rw [Int.fmod_eq_emod_of_nonneg i (by omega)]; exact q)
theorem unI {f : Value → Sem Value} {g : Int → Int}
    (rule : ∀ (i : Int) (t : Tok) (s : Shared) (Q : Value → Shared → Prop) (E : Value → Shared → Prop), Q (.int (g i) s.toks) { s with toks := s.toks + 1 } → wpAny (model X.prog X.w) X.A (f (.int i t)) Q E s) :
    UnR X f (rU fun i => .int (g i)) := by
  intro pins s σ H x v Q I rx h
  obtain ⟨i, rfl, q⟩ := h
  obtain ⟨t, rfl⟩ := rx
  exact rule i t s _ _ ⟨.int (g i), H, I.tok _, ⟨_, rfl⟩, q⟩
theorem un_neg : UnR X (unaryOp .USub) (rU fun i => .int (-i)) := unI fun _ _ _ _ _ q => neg_int q
end
def scal : V → V → Bool
  | .non, .non => true | .non, .int _ => true | .int _, .non => true | .non, .bl _ => true | .bl _, .non => true | .non, .str _ => true | .str _, .non => true
  | .int _, .int _ => true | .bl _, .bl _ => true | .str _, .str _ => true | .byt _, .byt _ => true
  | .int _, .str _ => true | .str _, .int _ => true | .bl _, .str _ => true | .str _, .bl _ => true
  | _, _ => false
def rEq : R2 := fun x y H Q => scal x y = true ∧ Q (.bl (decide (x = y))) H
def rNe : R2 := fun x y H Q => scal x y = true ∧ Q (.bl (!decide (x = y))) H
theorem dec_int {i j : Int} : decide (V.int i = V.int j) = (i == j) := by
  rw [Bool.eq_iff_iff]
  simp
theorem dec_bl {i j : Bool} : decide (V.bl i = V.bl j) = (i == j) := by
  rw [Bool.eq_iff_iff]
  simp
theorem dec_str {i j : Str} : decide (V.str i = V.str j) = (i == j) := by
  rw [Bool.eq_iff_iff]
  simp
theorem dec_byt {i j : Array UInt8} : decide (V.byt i = V.byt j) = (i.toList == j.toList) := by
  rw [Bool.eq_iff_iff]
  cases i
  cases j
  simp
section
variable {X : Cx} {a b c : Expr} {ta tb tc : TE} {pos : Pos}
theorem fin_bl {pins : List (Addr × Obj)} {σ : St} {H : Hp} {s : Shared} {Q : VK} {k k' : Bool} (I : Inv X pins σ H s) (q : Q (.bl k) H) (e : k = k') : EP X pins σ Q (.bool k') s := by
  subst e
  exact ⟨.bl k, H, I, rfl, q⟩
theorem op_eq : OpR X (compareOp .Eq) rEq := by
  intro pins s σ H x y v u Q I rx ry h
  obtain ⟨hs, q⟩ := h
  cases x with
  | non =>
    cases rx
    cases y with
    | non => cases ry; exact PySem.EqNone.eq_none_none (fin_bl I q (by simp))
    | bl j => cases ry; exact PySem.EqNone.eq_none_bool (fin_bl I q (by simp))
    | int j => obtain ⟨t', rfl⟩ := ry; exact PySem.EqNone.eq_none_int (fin_bl I q (by simp))
    | str j => obtain ⟨t', rfl⟩ := ry; exact PySem.EqNone.eq_none_str (fin_bl I q (by simp))
    | _ => exact absurd (show false = true from hs) Bool.false_ne_true
  | bl i =>
    cases rx
    cases y with
    | non => cases ry; exact PySem.EqNone.eq_bool_none (fin_bl I q (by simp))
    | bl j => cases ry; exact eq_bool (fin_bl I q dec_bl)
    | str j => obtain ⟨t', rfl⟩ := ry; exact PySem.EqMixed.eq_bool_str (fin_bl I q (by simp))
    | _ => exact absurd (show false = true from hs) Bool.false_ne_true
  | int i =>
    obtain ⟨t, rfl⟩ := rx
    cases y with
    | non => cases ry; exact PySem.EqNone.eq_int_none (fin_bl I q (by simp))
    | int j => obtain ⟨t', rfl⟩ := ry; exact eq_int (fin_bl I q dec_int)
    | str j => obtain ⟨t', rfl⟩ := ry; exact PySem.EqMixed.eq_int_str (fin_bl I q (by simp))
    | _ => exact absurd (show false = true from hs) Bool.false_ne_true
  | str i =>
    obtain ⟨t, rfl⟩ := rx
    cases y with
    | non => cases ry; exact PySem.EqNone.eq_str_none (fin_bl I q (by simp))
    | bl j => cases ry; exact PySem.EqMixed.eq_str_bool (fin_bl I q (by simp))
    | int j => obtain ⟨t', rfl⟩ := ry; exact PySem.EqMixed.eq_str_int (fin_bl I q (by simp))
    | str j => obtain ⟨t', rfl⟩ := ry; exact eq_str (fin_bl I q dec_str)
    | _ => exact absurd (show false = true from hs) Bool.false_ne_true
  | byt i =>
    obtain ⟨t, rfl⟩ := rx
    cases y with
    | byt j => obtain ⟨t', rfl⟩ := ry; exact PySem.W.eq_bytes (fin_bl I q dec_byt)
    | _ => exact absurd (show false = true from hs) Bool.false_ne_true
  | _ => cases y <;> exact absurd (show false = true from hs) Bool.false_ne_true
theorem op_ne : OpR X (compareOp .NotEq) rNe := by
  intro pins s σ H x y v u Q I rx ry h
  obtain ⟨hs, q⟩ := h
  cases x with
  | non =>
    cases rx
    cases y with
    | non => cases ry; exact PySem.EqNone.ne_none_none (fin_bl I q (by simp))
    | bl j => cases ry; exact PySem.EqNone.ne_none_bool (fin_bl I q (by simp))
    | int j => obtain ⟨t', rfl⟩ := ry; exact PySem.EqNone.ne_none_int (fin_bl I q (by simp))
    | str j => obtain ⟨t', rfl⟩ := ry; exact PySem.EqNone.ne_none_str (fin_bl I q (by simp))
    | _ => exact absurd (show false = true from hs) Bool.false_ne_true
  | bl i =>
    cases rx
    cases y with
    | non => cases ry; exact PySem.EqNone.ne_bool_none (fin_bl I q (by simp))
    | bl j => cases ry; exact ne_bool (fin_bl I q (congrArg not dec_bl))
    | str j => obtain ⟨t', rfl⟩ := ry; exact PySem.EqMixed.ne_bool_str (fin_bl I q (by simp))
    | _ => exact absurd (show false = true from hs) Bool.false_ne_true
  | int i =>
    obtain ⟨t, rfl⟩ := rx
    cases y with
    | non => cases ry; exact PySem.EqNone.ne_int_none (fin_bl I q (by simp))
    | int j => obtain ⟨t', rfl⟩ := ry; exact ne_int (fin_bl I q (congrArg not dec_int))
    | str j => obtain ⟨t', rfl⟩ := ry; exact PySem.EqMixed.ne_int_str (fin_bl I q (by simp))
    | _ => exact absurd (show false = true from hs) Bool.false_ne_true
  | str i =>
    obtain ⟨t, rfl⟩ := rx
    cases y with
    | non => cases ry; exact PySem.EqNone.ne_str_none (fin_bl I q (by simp))
    | bl j => cases ry; exact PySem.EqMixed.ne_str_bool (fin_bl I q (by simp))
    | int j => obtain ⟨t', rfl⟩ := ry; exact PySem.EqMixed.ne_str_int (fin_bl I q (by simp))
    | str j => obtain ⟨t', rfl⟩ := ry; exact ne_str (fin_bl I q (congrArg not dec_str))
    | _ => exact absurd (show false = true from hs) Bool.false_ne_true
  | byt i =>
    obtain ⟨t, rfl⟩ := rx
    cases y with
    | byt j => obtain ⟨t', rfl⟩ := ry; exact PySem.W.ne_bytes (fin_bl I q (congrArg not dec_byt))
    | _ => exact absurd (show false = true from hs) Bool.false_ne_true
  | _ => cases y <;> exact absurd (show false = true from hs) Bool.false_ne_true
theorem op_lt : OpR X (compareOp .Lt) (rI0 fun i j => .bl (decide (i < j))) := opB0 fun _ _ _ _ _ _ _ q => lt_int q
theorem op_le : OpR X (compareOp .LtE) (rI0 fun i j => .bl (decide (i ≤ j))) := opB0 fun _ _ _ _ _ _ _ q => le_int q
theorem op_gt : OpR X (compareOp .Gt) (rI0 fun i j => .bl (decide (j < i))) := opB0 fun _ _ _ _ _ _ _ q => gt_int q
theorem op_lt_str : OpR X (compareOp .Lt) (fun x y H Q => ∃ i j, x = .str i ∧ y = .str j ∧ Q (.bl (decide (i.cps.toList < j.cps.toList))) H) := by
  intro pins s σ H x y v u Q I rx ry h
  obtain ⟨i, j, rfl, rfl, q⟩ := h
  obtain ⟨t, rfl⟩ := rx
  obtain ⟨t', rfl⟩ := ry
  exact lt_str (fin_bl I q rfl)
theorem op_in_str : OpR X (compareOp .In) (fun x y H Q => ∃ i j, x = .str i ∧ y = .str j ∧ Q (.bl (!(Builtin.Str.occurrences j i 0 j.length 1).isEmpty)) H) := by
  intro pins s σ H x y v u Q I rx ry h
  obtain ⟨i, j, rfl, rfl, q⟩ := h
  obtain ⟨t, rfl⟩ := rx
  obtain ⟨t', rfl⟩ := ry
  exact in_str (fin_bl I q rfl)
theorem op_isN : OpR X (compareOp .Is) (fun x y H Q => y = .non ∧ Q (.bl (decide (x = .non))) H) := by
  intro pins s σ H x y v u Q I rx ry h
  obtain ⟨rfl, q⟩ := h
  cases ry
  refine is_none_gen (fin_bl I q ?_)
  cases x <;> first
    | (cases rx; rfl)
    | (obtain ⟨t, rfl⟩ := rx; rfl)
theorem op_notN : OpR X (compareOp .IsNot) (fun x y H Q => y = .non ∧ Q (.bl (!decide (x = .non))) H) := by
  intro pins s σ H x y v u Q I rx ry h
  obtain ⟨rfl, q⟩ := h
  cases ry
  refine isnot_none_gen (fin_bl I q ?_)
  cases x <;> first
    | (cases rx; rfl)
    | (obtain ⟨t, rfl⟩ := rx; rfl)
theorem OpR.or {f : Value → Value → Sem Value} {r r' : R2} (h : OpR X f r) (h' : OpR X f r') : OpR X f (fun x y H Q => r x y H Q ∨ r' x y H Q) := by
  intro pins s σ H x y v u Q I rx ry q
  rcases q with q | q
  · exact h pins s σ H x y v u Q I rx ry q
  · exact h' pins s σ H x y v u Q I rx ry q
theorem nomark (b : Expr) {op : CmpOp} (h : op ≠ .In := by decide) (h2 : op ≠ .NotIn := by decide) : behindInMarks op b = false := by
  have e1 : (op == CmpOp.In) = false := by cases op <;> first | rfl | exact absurd rfl h
  have e2 : (op == CmpOp.NotIn) = false := by cases op <;> first | rfl | exact absurd rfl h2
  cases b <;> simp [behindInMarks, e1, e2]
theorem pe_cmpR {op : CmpOp} {r : R2} (ho : OpR X (compareOp op) r) (ha : PE X a ta) (hb : PE X b tb) (hm : behindInMarks op b = false) : PE X (.Compare a [op] [b] pos) (tOp r ta tb) := by
  intro pins s σ H Q I h
  exact wpAny_Compare1 (binT ha hb I h fun v u s2 x y H2 I2 rx ry q => ho pins s2 σ H2 x y v u Q I2 rx ry q) hm
def tTest (t : TE) : TT := fun σ H Q => t σ H fun x H' => ∃ k, x = .bl k ∧ Q k H'
theorem pt_cmpR {op : CmpOp} {r : R2} (ho : OpR X (compareOp op) r) (ha : PE X a ta) (hb : PE X b tb) (hm : behindInMarks op b = false) : PT X (.Compare a [op] [b] pos) (tTest (tOp r ta tb)) := by
  intro pins s σ H Q I h
  refine wpAny_isTrue_Compare1 (thn (ha pins s σ H _ I h) fun v s1 ⟨x, H1, I1, r1, q1⟩ => thn (hb pins s1 σ H1 _ I1 q1) fun u s2 ⟨y, H2, I2, r2, q2⟩ =>
    thn (ho pins s2 σ H2 x y v u _ I2 r1 r2 q2) fun c s3 ⟨z, H3, I3, r3, k, e, q3⟩ => ?_) hm
  subst e
  cases r3
  exact wpAny_truthy_bool ⟨H3, I3, q3⟩
theorem line63 : (sizeLine : Nat) < 2 ^ 63 := by rw [sizeLine_eq]; decide
theorem op_add_str : OpR X (binaryOp .Add) (fun x y H Q => ∃ i j, x = .str i ∧ y = .str j ∧ i.length + j.length ≤ sizeLine ∧ Q (.str (i ++ j)) H) := by
  intro pins s σ H x y v u Q I rx ry h
  obtain ⟨i, j, rfl, rfl, hz, q⟩ := h
  obtain ⟨t, rfl⟩ := rx
  obtain ⟨t', rfl⟩ := ry
  exact add_str (fun t' tk => ⟨.str (i ++ j), H, I.tok _, ⟨_, rfl⟩, q⟩) hz
theorem vals1 {x : V} {us : List Value} (r : Vals [x] us) : ∃ u, us = [u] ∧ RelV x u := by
  cases r with
  | cons r1 r2 => cases r2; exact ⟨_, rfl, r1⟩
theorem vals2 {x y : V} {us : List Value} (r : Vals [x, y] us) : ∃ u w', us = [u, w'] ∧ RelV x u ∧ RelV y w' := by
  cases r with
  | cons r1 r2 =>
    cases r2 with
    | cons r3 r4 => cases r4; exact ⟨_, _, rfl, r1, r3⟩
theorem call_str_int : CallR X (.type "str") (fun xs H Q => ∃ i, xs = [.int i] ∧ i.natAbs.log2 < 1920 ∧ Q (.str (toString i)) H) := by
  intro pins s σ H xs us Q I r h
  obtain ⟨i, rfl, hz, q⟩ := h
  obtain ⟨u, rfl, t, rfl⟩ := vals1 r
  exact PySem.P.str_of_int hz ⟨.str _, H, I.tok _, ⟨_, rfl⟩, q⟩
def LenV (K : PySem.W.Frag) (x : V) (H : Hp) (n : Nat) : Prop :=
  match x with
  | .str y => y.length ≤ sizeLine ∧ n = y.length
  | .byt y => y.size ≤ sizeLine ∧ n = y.size
  | .ref p => (∃ xs, SqL K H p xs ∧ n = xs.length) ∨ ∃ xs, SqT K H p xs ∧ n = xs.length
  | _ => False
theorem call_len : CallR X (.builtin "len") (fun xs H Q => ∃ x n, xs = [x] ∧ LenV X.K x H n ∧ Q (.int n) H) := by
  intro pins s σ H xs us Q I r h
  obtain ⟨x, n, rfl, e, q⟩ := h
  obtain ⟨u, rfl, rx⟩ := vals1 r
  have hl := line63
  have hs : sizeLine = 16777216 := sizeLine_eq
  cases x with
  | str y =>
    obtain ⟨t, rfl⟩ := rx
    obtain ⟨hy, e'⟩ : y.length ≤ sizeLine ∧ n = y.length := e
    subst e'
    exact len_str (by omega) ⟨.int _, H, I.tok _, ⟨_, rfl⟩, q⟩
  | byt y =>
    obtain ⟨t, rfl⟩ := rx
    obtain ⟨hy, e'⟩ : y.size ≤ sizeLine ∧ n = y.size := e
    subst e'
    exact PySem.W.len_bytes (by omega) ⟨.int _, H, I.tok _, ⟨_, rfl⟩, q⟩
  | ref p =>
    cases rx
    have e' : (∃ xs, SqL X.K H p xs ∧ n = xs.length) ∨ ∃ xs, SqT X.K H p xs ∧ n = xs.length := e
    rcases e' with ⟨xs, hx, e'⟩ | ⟨xs, hx, e'⟩
    · subst e'
      obtain ⟨its, r', pl, hz⟩ := I.list hx
      have hlen := r'.length
      exact Calls.call_len_list pl.isList (by simp only [List.size_toArray]; omega) ⟨.int xs.length, H, I.tok _, ⟨_, by simp only [List.size_toArray]; rw [hlen]⟩, q⟩
    · subst e'
      obtain ⟨its, r', pl, hz⟩ := I.tuple hx
      have hlen := r'.length
      exact len_tuple pl (by simp only [List.size_toArray]; omega) ⟨.int xs.length, H, I.tok _, ⟨_, by simp only [List.size_toArray]; rw [hlen]⟩, q⟩
  | _ => exact (show False from e).elim
end
end L2
namespace L2
open PySem PySem.Spec PyProof.Rows
structure ObjM (h : Heap) (x dx C : Addr) (mA : Str → Option Value) : Prop where
  obj : h.get? x = some (PySem.W.instObj C dx)
  ns : h.Ns1 dx mA
  ne : dx ≠ x
theorem lookIn_ns {h : Heap} {dx : Addr} {mA : Str → Option Value} (n : h.Ns1 dx mA) : ∃ od, h.get? dx = some od ∧ ∀ name, PySem.W.lookIn name od = some (mA name) := by
  obtain ⟨o, es, ep, ho, hd, hk, _, hm⟩ := n
  refine ⟨o, ho, fun name => ?_⟩
  have e := hm name
  unfold nsFind findBy at e
  rw [← Array.find?_toList] at e
  unfold PySem.W.lookIn
  rw [hd]
  dsimp only
  split
  · rename_i y q
    rw [q] at e
    exact congrArg some e
  · rename_i q
    rw [q] at e
    have a : es.toList.any (·.refKey) = false := by
      rw [List.any_eq_false]
      intro y hy
      obtain ⟨z, t, hkey⟩ := hk y (Array.mem_toList_iff.mp hy)
      simp [DictEntry.refKey, hkey]
    have a' : ¬ es.toList.any (·.refKey) = true := by rw [a]; exact Bool.false_ne_true
    rw [if_neg a']
    exact congrArg some e
theorem ObjM.look {h : Heap} {x dx C : Addr} {mA : Str → Option Value} (I : ObjM h x dx C mA) : ∃ od, PySem.W.InstAt h x (PySem.W.instObj C dx) C (some od) ∧ ∀ name, PySem.W.lookIn name od = some (mA name) :=
  let ⟨od, ho, hl⟩ := lookIn_ns I.ns
  ⟨od, ⟨I.obj, rfl, rfl, ho⟩, hl⟩
section
variable {prog : Program} {w : World} {A : Around} {E : Value → Shared → Prop} {s : Shared} {K : PySem.W.Frag} {x dx C f : Addr} {mA : Str → Option Value} {name : Str} {v : Value}
theorem set_map {ns : List Str} {Q : Unit → Shared → Prop} (X : K.In s.heap) (I : ObjM s.heap x dx C mA)
    (hs : PySem.W.findIn K (.ref C) "__setattr__" = some (some (.builtin "object.__setattr__"))) (hp : PySem.W.plainOver K C = true) (ht : PySem.W.takerIn K C name = some none) (hh : PySem.W.hasDictIn K C = true)
    (hw : PySem.Within mA ns) (hsz : ns.length ≤ sizeLine)
    (h : ∀ h', ObjM h' x dx C (fun y => if y = name then some v else mA y) → Heap.SameBut dx s.heap h' → Q () { s with heap := h', toks := s.toks + 2 }) :
    wpAny (model prog w) A (setAttr (.ref x) name v) Q E s := by
  obtain ⟨od, J, hl⟩ := I.look
  refine PySem.W.set_plain X J hs (PySem.W.osa_open (s := { s with toks := s.toks + 1 }) (r := none) X J hp ht fun b => ?_)
  obtain ⟨cd, hc, hd'⟩ := PySem.W.any_some hh
  have hx : s.heap.get? x = some ⟨.ref C, some dx, .plain, #[]⟩ := I.obj
  refine wpAny_bind (wpAny_pure (wpAny_bind (wpAny_bind (wpAny_loadPart hx (wpAny_bind (PySem.W.Looks.here (s := { s with toks := s.toks + 1 }) (PySem.W.looks_clsIn X hc) ?_))))))
  rw [hd']
  refine wpAny_pure (a := some dx) (wpAny_bind (wpAny_pure (wpAny_bind ?_)))
  refine wpAny_nsSet1 (s := { s with toks := s.toks + 1 }) I.ns fun h' hn2 hs2 => ?_
  obtain ⟨oD, esD, epD, hoD, hdD, hcD⟩ := hn2.count (PySem.Within.cons name v hw)
  refine wpAny_bind (wpAny_lookBehind hoD (by rw [hdD]; exact pastItsLine_dict (Nat.le_trans hcD (by rw [List.length_cons]; omega))) ?_)
  exact wpAny_pure (h _ ⟨(hs2.2 _ (Ne.symm I.ne)).trans I.obj, hn2, I.ne⟩ hs2)
end
theorem RelO.none_of {o : Option Value} (r : RelO none o) : o = none := by
  cases o with
  | none => rfl
  | some u => exact (show False from r).elim
section
variable {P : Program} {w : World} {H H' : Hp} {h h' : Heap} {a C dx : Addr} {fs fs' : List (Str × V)}
theorem ins_get (hok : HOk P w H h) (e : H a = some (.ins C dx fs)) : ∃ mA, ObjM h a dx C mA ∧ (∀ f, RelO (fs.lookup f) (mA f)) ∧ PySem.Within mA (fs.map (·.1)) ∧ fs.length ≤ 1000 ∧ H dx = some (.own a) := by
  obtain ⟨d, z, ne, ob, mA, n, r, q⟩ := (show ObjOk P w H h a (.ins C dx fs) from hok a _ e)
  exact ⟨mA, ⟨ob, n, ne⟩, r, q, z, d⟩
end
structure Cls (K : PySem.W.Frag) (C : Addr) : Prop where
  pg : PySem.W.plainGet K C Str.empty = true
  hd : PySem.W.hasDictIn K C = true
  po : PySem.W.plainOver K C = true
  sa : PySem.W.findIn K (.ref C) "__setattr__" = some (some (.builtin "object.__setattr__"))
theorem Cls.get {K : PySem.W.Frag} {C : Addr} (c : Cls K C) (f : Str) : PySem.W.plainGet K C f = true := c.pg
structure Con (K : PySem.W.Frag) (C : Addr) (f : Str) (v : V) (u : Value) : Prop where
  at_ : PySem.W.findIn K (.ref C) f = some (some u)
  rel : RelV v u
  get : PySem.W.specialIn K u "__get__" = some none
  cp : PySem.W.copiedNames.contains f = false
structure Meth (K : PySem.W.Frag) (C : Addr) (m : Str) (f : Addr) : Prop where
  at_ : PySem.W.findIn K (.ref C) m = some (some (.ref f))
  fn : PySem.W.isFn K (.ref f) = true
  kp : PySem.W.keepIn K (.ref f) = true
section
variable {X : Cx} {pins : List (Addr × Obj)} {σ : St} {H : Hp} {s : Shared} {a C dx : Addr} {fs : List (Str × V)} {f : Str} {v : V} {A : Around} {E : Value → Shared → Prop}
theorem Inv.made (I : Inv X pins σ H s) : Inv X pins σ (upd (upd H s.heap.objs.size (.own (s.heap.objs.size + 1))) (s.heap.objs.size + 1) (.ins C s.heap.objs.size []))
    { s with heap := (s.heap.push PySem.W.emptyDict).push (PySem.W.instObj C s.heap.objs.size) } := by
  have e1 : (s.heap.push PySem.W.emptyDict).get? s.heap.objs.size = some PySem.W.emptyDict := Heap.get?_push_size s.heap rfl
  have e2 : ((s.heap.push PySem.W.emptyDict).push (PySem.W.instObj C s.heap.objs.size)).get? (s.heap.objs.size + 1) = some (PySem.W.instObj C s.heap.objs.size) := by
    have := Heap.get?_push_size (s.heap.push PySem.W.emptyDict) (o := PySem.W.instObj C s.heap.objs.size) rfl
    rwa [Heap.size_push] at this
  have e3 : (s.heap.push PySem.W.emptyDict).Ns s.heap.objs.size (fun _ => none) := ⟨PySem.W.emptyDict, #[], _, e1, rfl, (fun e he => absurd he (by simp)), fun _ => rfl⟩
  have I1 := I.laid (a := s.heap.objs.size) (o := .own (s.heap.objs.size + 1)) (h' := s.heap.push PySem.W.emptyDict) (t' := s.toks) (fun b u q => Heap.get?_push_of_some _ q) (Nat.le_refl _) ⟨_, e1⟩
  refine I1.laid (a := s.heap.objs.size + 1) (o := .ins C s.heap.objs.size []) (t' := s.toks) (fun b u q => Heap.get?_push_of_some _ q) (Nat.le_of_eq (Heap.size_push _ _)) ?_
  have ne : s.heap.objs.size ≠ s.heap.objs.size + 1 := Nat.ne_of_lt (Nat.lt_succ_self _)
  refine ⟨by rw [upd_ne ne, upd_same], Nat.zero_le _, ne, e2, fun _ => none, (Heap.Ns1.of_empty e3).at fun o q => Heap.get?_push_of_some _ q, fun _ => True.intro, fun y hy => absurd rfl hy⟩
end
section
variable {X : Cx} {o e value : Expr} {f : Str} {pos pos' tpos : Pos} {ta tv : TE}
end
section
variable {X : Cx} {pins : List (Addr × Obj)} {σ : St} {H : Hp} {s : Shared} {A : Around} {E : Value → Shared → Prop} {Q : Value → Shared → Prop} {c : Value} {b : Bool}
inductive TyOf (K : PySem.W.Frag) (H : Hp) : V → Value → Prop where
  | non : TyOf K H .non (.type "NoneType")
  | bl (x : Bool) : TyOf K H (.bl x) (.type "bool")
  | int (i : Int) : TyOf K H (.int i) (.type "int")
  | str (x : Str) : TyOf K H (.str x) (.type "str")
  | flt (x : UInt64) : TyOf K H (.flt x) (.type "float")
  | lst {a : Addr} {xs : List V} (e : H a = some (.lst xs)) : TyOf K H (.ref a) (.type "list")
  | frz {a : Addr} {o : Obj} {xs : List V} (e : H a = some (.frz o (.lst xs))) : TyOf K H (.ref a) (.type "list")
  | tup {a : Addr} {xs : List V} (e : H a = some (.tup xs)) : TyOf K H (.ref a) (.type "tuple")
  | dK {a : Addr} {kvs : List (Key × V)} (e : H a = some (.dK kvs)) : TyOf K H (.ref a) (.type "dict")
  | dT {a : Addr} {kvs : List (List Key × V)} (e : H a = some (.dT kvs)) : TyOf K H (.ref a) (.type "dict")
  | ins {a C dx : Addr} {fs : List (Str × V)} (e : H a = some (.ins C dx fs)) (cl : Cls K C) (ha : PySem.W.findIn K (.ref C) "__class__" = some (some (.builtin "object.__class__")))
      (hn : PySem.W.specialIn K (.builtin "object.__class__") "__get__" = some (some (.builtin "getset_descriptor.__get__"))) (htk : PySem.W.takesIn K (.builtin "object.__class__") = some true)
      (hm : PySem.W.mroIn K C (.type "object") = some true) : TyOf K H (.ref a) (.ref C)
theorem isinst_ok {x : V} {u t : Value} (I : Inv X pins σ H s) (rx : RelV x u) (ty : TyOf X.K H x t) (e : PySem.W.kitOne X.K t c = some b) (h : ∀ tk, Q (.bool b) { s with toks := tk }) :
    wpAny (model X.prog X.w) A (call (.builtin "isinstance") [u, c]) Q E s := by
  cases ty with
  | non => cases (show u = Value.none from rx); exact PySem.W.kia_one PySem.W.kitx_none I.kIn True.intro e (fun z => nomatch z) h
  | bl y => cases (show u = Value.bool y from rx); exact PySem.W.kia_one PySem.W.kitx_bool I.kIn True.intro e (fun z => nomatch z) h
  | int i => obtain ⟨t, q⟩ := (show ∃ t, u = Value.int i t from rx); cases q; exact PySem.W.kia_one PySem.W.kitx_int I.kIn True.intro e (fun z => nomatch z) h
  | str y => obtain ⟨t, q⟩ := (show ∃ t, u = Value.str y t from rx); cases q; exact PySem.W.kia_one PySem.W.kitx_str I.kIn True.intro e (fun z => nomatch z) h
  | flt y => obtain ⟨t, q⟩ := (show ∃ t, u = Value.float y t from rx); cases q; exact PySem.W.kia_one PySem.W.kitx_float I.kIn True.intro e (fun z => nomatch z) h
  | @lst a xs ea =>
    cases (show u = Value.ref a from rx)
    obtain ⟨_, _, n, _, h1⟩ := (show ObjOk X.prog X.w H s.heap a (.lst xs) from I.hok a _ ea)
    exact PySem.W.kia_one PySem.W.kitx_list I.kIn ⟨_, h1, rfl⟩ e (fun z => nomatch z) h
  | @frz a ob xs ea =>
    cases (show u = Value.ref a from rx)
    obtain ⟨_, _, _, n, _, h1⟩ := (show ObjOk X.prog X.w H s.heap a (.frz ob (.lst xs)) from I.hok a _ ea)
    exact PySem.W.kia_one PySem.W.kitx_list I.kIn ⟨_, h1, rfl⟩ e (fun z => nomatch z) h
  | @tup a xs ea =>
    cases (show u = Value.ref a from rx)
    obtain ⟨_, _, _, p⟩ := (show ObjOk X.prog X.w H s.heap a (.tup xs) from I.hok a _ ea)
    obtain ⟨o, h1, h2, _⟩ := p
    exact PySem.W.kia_one PySem.W.kitx_tuple I.kIn ⟨o, h1, h2⟩ e (fun z => nomatch z) h
  | @dK a kvs ea =>
    cases (show u = Value.ref a from rx)
    obtain ⟨_, _, vs, _, p⟩ := (show ObjOk X.prog X.w H s.heap a (.dK kvs) from I.hok a _ ea)
    obtain ⟨o, es, ep, h1, h2, _⟩ := p
    exact PySem.W.kia_one PySem.W.kitx_dict I.kIn ⟨o, h1, h2.1⟩ e (fun z => nomatch z) h
  | @dT a kvs ea =>
    cases (show u = Value.ref a from rx)
    obtain ⟨_, _, xs, _, o, es, ep, h1, h2, _⟩ := (show ObjOk X.prog X.w H s.heap a (.dT kvs) from I.hok a _ ea)
    exact PySem.W.kia_one PySem.W.kitx_dict I.kIn ⟨o, h1, h2.1⟩ e (fun z => nomatch z) h
  | @ins a C dx fs ea cl ha hn htk hm =>
    cases (show u = Value.ref a from rx)
    obtain ⟨mA, O, _⟩ := ins_get I.hok ea
    obtain ⟨od, J, _⟩ := O.look
    exact PySem.W.kia_one (PySem.W.kitx_own (cl.get _) cl.hd ha hn htk hm) I.kIn J e (fun z => nomatch z) h
end
end L2
namespace L2
open PySem PySem.Spec PyProof.Rows
structure Room (k : Nat) (A : Around) : Prop where
  hd : A.handled = none
  dp : A.depth + 3 * k + 5 < recursionLimit
  un : A.units + 16 * k + 200 < cLine
theorem Room.mono {j k : Nat} {A : Around} (r : Room k A) (h : j ≤ k) : Room j A := ⟨r.hd, by have := r.dp; omega, by have := r.un; omega⟩
theorem Room.deeper {k : Nat} {A : Around} (r : Room (k + 1) A) (env : Env) : Room k (A.deeper env) :=
  ⟨r.hd, by have := r.dp; show A.depth + 1 + 3 * k + 5 < _; omega, by have := r.un; show A.units + 3 + 16 * k + 200 < _; omega⟩
theorem Room.in1 {k : Nat} {A : Around} (r : Room (k + 1) A) : Room k A.in1 :=
  ⟨r.hd, by have := r.dp; show A.depth + 3 * k + 5 < _; omega, by have := r.un; show A.units + 1 + 16 * k + 200 < _; omega⟩
theorem make_depth {A : Around} {C : Addr} {us : List Value} {kw : List (Str × Value)} : (A.under (.builtin "type.__call__" ⟨.ref C :: us, kw⟩)).depth = A.depth + 1 := by
  first | rfl | simp [Around.under, Code.weight, Code.isCreation, Code.isGuard, Code.isCaller, Code.frames, Code.isFrame, guardIds]
theorem make_units {A : Around} {C : Addr} {us : List Value} {kw : List (Str × Value)} : (A.under (.builtin "type.__call__" ⟨.ref C :: us, kw⟩)).units = A.units + 1 := by
  first | rfl | simp [Around.under, Code.cUnits, Code.frames, Code.isFrame]
theorem Room.make {k : Nat} {A : Around} (r : Room (k + 1) A) (C : Addr) (us : List Value) (kw : List (Str × Value)) : Room k (A.under (.builtin "type.__call__" ⟨.ref C :: us, kw⟩)) :=
  ⟨r.hd, by have := r.dp; rw [make_depth]; omega, by have := r.un; rw [make_units]; omega⟩
theorem Room.depth {k : Nat} {A : Around} (r : Room k A) : A.depth < recursionLimit := by have := r.dp; omega
theorem Room.units {k : Nat} {A : Around} (r : Room k A) : A.units + 64 < cLine := by have := r.un; omega
theorem Room.units0 {k : Nat} {A : Around} (r : Room k A) : A.units < cLine := by have := r.un; omega
def tNil : TA := fun _ H Q => Q [] H
def tCons (ta : TE) (tr : TA) : TA := fun σ H Q => ta σ H fun x H1 => tr σ H1 fun xs H2 => Q (x :: xs) H2
section
variable {X : Cx} {e : Expr} {es : List Expr} {te : TE} {t : TA} {pos : Pos}
theorem pa_nil : PA X [] tNil := fun _ _ _ _ H Q I h => Calls.spliced_nil ⟨[], H, I, .nil, h⟩
theorem pa_cons (ha : PE X e te) (hr : PA X es t) (hs : starEach (e :: es) X.env = (false, eval e X.env) :: starEach es X.env := by rfl) : PA X (e :: es) (tCons te t) := by
  intro pos pins s σ H Q I h
  rw [hs]
  show wpAny _ _ (spliced ((false, eval e X.env) :: backTo pos (starEach es X.env))) _ _ s
  refine Calls.spliced_cons (thn (ha pins s σ H _ I h) fun u s1 ⟨x, H1, I1, r1, q1⟩ => ?_)
  exact thn (hr pos pins s1 σ H1 _ I1 q1) fun us s2 ⟨xs, H2, I2, r2, q2⟩ => ⟨x :: xs, H2, I2, .cons r1 r2, q2⟩
def tTup (t : TA) : TE := fun σ H Q => t σ H fun xs H1 => xs.length ≤ sizeLine ∧ ∀ p, H1 p = none → Q (.ref p) (upd H1 p (.tup xs))
def tLst (t : TA) : TE := fun σ H Q => t σ H fun xs H1 => xs.length ≤ sizeLine ∧ ∀ p, H1 p = none → Q (.ref p) (upd H1 p (.lst xs))
theorem pe_tup {x1} (h : PA X es t) : PE X (.Tuple es x1 pos) (tTup t) := by
  intro pins s σ H Q I hq
  refine wpAny_Tuple_spliced (thn (h pos pins s σ H _ I hq) fun us s1 ⟨xs, H1, I1, r, z, q⟩ => ⟨by rw [← r.length]; exact z, ?_⟩)
  have hf : H1 s1.heap.objs.size = none := I1.hok.fresh (Nat.le_refl _)
  refine ⟨.ref s1.heap.objs.size, upd H1 s1.heap.objs.size (.tup xs), I1.laid (t' := s1.toks) (fun b u e => Heap.get?_push_of_some _ e) (Nat.le_refl _) ?_, rfl, q _ hf⟩
  exact ⟨z, us, r, ⟨_, Heap.get?_push_size _ rfl, rfl, _, rfl⟩⟩
theorem pe_lst (h : PA X es t) : PE X (.List es pos) (tLst t) := by
  intro pins s σ H Q I hq
  refine wpAny_List_spliced (thn (h pos pins s σ H _ I hq) fun us s1 ⟨xs, H1, I1, r, z, q⟩ => ⟨by rw [← r.length]; exact z, ?_⟩)
  have hf : H1 s1.heap.objs.size = none := I1.hok.fresh (Nat.le_refl _)
  refine ⟨.ref s1.heap.objs.size, upd H1 s1.heap.objs.size (.lst xs), I1.laid (t' := s1.toks) (fun b u e => Heap.get?_push_of_some _ e) (Nat.le_refl _) ?_, rfl, q _ hf⟩
  exact ⟨z, us, 0, r, Heap.get?_push_size _ rfl⟩
end
abbrev Sp := List V → Hp → VK → XK → Prop
abbrev CXT := List Env → Hp → Shared → XK → Value → Shared → Prop
structure Env0 (P : Program) (w : World) (K : PySem.W.Frag) (mg : Str → Option Value) (base : Heap) (A : Around) (outer : List Env) (s : Shared) (H : Hp) : Prop where
  frames : A.frames = some outer
  mod : Mod K mg base
  bs : ∀ b o, base.get? b = some o → s.heap.get? b = some o ∧ H b = none
  bsz : base.objs.size ≤ s.heap.objs.size
  funs : s.heap.FunFrames base outer
  frf : ∀ b ∈ frs outer, H b = none
  hok : HOk P w H s.heap
  bare : AllBare s.gens
def CE (outer : List Env) (P : Program) (w : World) (H : Hp) (s : Shared) (Q : VK) (u : Value) (s' : Shared) : Prop :=
  ∃ v H', s'.os = s.os ∧ AllBare s'.gens ∧ Un (frs outer) [] H H' s.heap s'.heap ∧ HOk P w H' s'.heap ∧ RelV v u ∧ Q v H'
def CR (CX : CXT) (outer : List Env) (P : Program) (w : World) (H : Hp) (s : Shared) (Q : VK) (E : XK) (r : Result) (s' : Shared) : Prop :=
  match r with
  | .ok (.ret u) => CE outer P w H s Q u s'
  | .ok _ => False
  | .error e => CX outer H s E e s'
structure FnOk (P : Program) (w : World) (K : PySem.W.Frag) (mg : Str → Option Value) (base : Heap) (CX : CXT) (k : Nat) (f : Addr) (fd : FuncData) (ps : List Str) (sp : Sp) : Prop where
  len : ∀ vs H Q E, sp vs H Q E → vs.length = ps.length
  run : ∀ (A : Around) (outer : List Env) (s : Shared) (H : Hp) (args : Args) (us : List Value) (vs : List V) (Q : VK) (E : XK), Room k A → Env0 P w K mg base A outer s H → BindsTo s fd args (ps.zip us) → Vals vs us → sp vs H Q E →
    codeAny (model P w) A (.call (.ref f) args) (CR CX outer P w H s Q E) s
theorem FnOk.mono {P : Program} {w : World} {K : PySem.W.Frag} {mg : Str → Option Value} {base : Heap} {CX : CXT} {j k : Nat} {f : Addr} {fd : FuncData} {ps : List Str} {sp : Sp} (F : FnOk P w K mg base CX j f fd ps sp) (h : j ≤ k) :
    FnOk P w K mg base CX k f fd ps sp := ⟨F.len, fun A outer s H args us vs Q E hr => F.run A outer s H args us vs Q E (hr.mono h)⟩
theorem FnOk.imp {P : Program} {w : World} {K : PySem.W.Frag} {mg : Str → Option Value} {base : Heap} {CX : CXT} {k : Nat} {f : Addr} {fd : FuncData} {ps : List Str} {sp sp' : Sp} (F : FnOk P w K mg base CX k f fd ps sp)
    (h : ∀ vs H Q E, sp' vs H Q E → sp vs H Q E) : FnOk P w K mg base CX k f fd ps sp' :=
  ⟨fun vs H Q E q => F.len vs H Q E (h _ _ _ _ q), fun A outer s H args us vs Q E hr he hb hv hs => F.run A outer s H args us vs Q E hr he hb hv (h _ _ _ _ hs)⟩
theorem Env0.make {P : Program} {w : World} {K : PySem.W.Frag} {mg : Str → Option Value} {base : Heap} {A : Around} {outer : List Env} {s : Shared} {H : Hp} (e : Env0 P w K mg base A outer s H) (C : Addr) (us : List Value) (kw : List (Str × Value)) :
    Env0 P w K mg base (A.under (.builtin "type.__call__" ⟨.ref C :: us, kw⟩)) outer s H := ⟨by first | exact e.frames | (simpa [Around.under, Code.envs, Code.isFrame, pushEnvs] using e.frames), e.mod, e.bs, e.bsz, e.funs, e.frf, e.hok, e.bare⟩
theorem Env0.in1 {P : Program} {w : World} {K : PySem.W.Frag} {mg : Str → Option Value} {base : Heap} {A : Around} {outer : List Env} {s : Shared} {H : Hp} (e : Env0 P w K mg base A outer s H) :
    Env0 P w K mg base A.in1 outer s H := ⟨e.frames, e.mod, e.bs, e.bsz, e.funs, e.frf, e.hok, e.bare⟩
section
variable {X : Cx} {pins : List (Addr × Obj)} {σ : St} {H : Hp} {s s' : Shared}
theorem Inv.env0 (I : Inv X pins σ H s) : Env0 X.prog X.w X.K X.mg X.base X.A X.stack s H :=
  ⟨I.ok.frames, I.ok.mod, I.bs, Nat.le_trans I.ok.bsz I.sz, I.stack, I.stkFree, I.hok, I.bare⟩
theorem Inv.after {Q : VK} {u : Value} (I : Inv X pins σ H s) (h : CE X.stack X.prog X.w H s Q u s') : EP X pins σ Q u s' := by
  obtain ⟨v, H', os, bare, un, hok, r, q⟩ := h
  obtain ⟨hh, g, d, t, os'⟩ := s'
  obtain rfl : os' = s.os := os
  exact ⟨v, H', I.call (h' := hh) (g' := g) (d' := d) (t' := t) (ch := []) un hok bare (fun b z => absurd z (by simp)), r, q⟩
end
def tCall (sp : Sp) (dvs : List V) (E : XK) (t : TA) : TE := fun σ H Q => t σ H fun vs H1 => sp (vs ++ dvs) H1 Q E
def Binds (K : PySem.W.Frag) (fd : FuncData) (ps : List Str) (ds : List Value) : Prop :=
  ∀ (s : Shared) (us : List Value), K.In s.heap → (us ++ ds).length = ps.length → BindsTo s fd ⟨us, []⟩ (ps.zip (us ++ ds))
theorem Binds.all {K : PySem.W.Frag} {fd : FuncData} {ps : List Str} (h : ∀ us : List Value, us.length = ps.length → bindArgs fd ⟨us, []⟩ = pure (ps.zip us)) : Binds K fd ps [] := fun s us _ hl => by
  rw [List.append_nil] at hl ⊢
  exact .of_eq (h us hl)
def Passes (CX : CXT) (X : Cx) (E : XK) : Prop := ∀ (pins : List (Addr × Obj)) (σ : St) (H : Hp) (s : Shared) (e : Value) (s' : Shared), Inv X pins σ H s → CX X.stack H s E e s' → X.xe e s'
section
variable {X : Cx} {CX : CXT} {k : Nat} {f C : Addr} {fd : FuncData} {ps : List Str} {sp : Sp} {dvs : List V} {ds : List Value} {E : XK} {x m : Str} {p pos apos : Pos} {e o : Expr} {es : List Expr} {ta : TE} {t : TA}
theorem run_fn {pins : List (Addr × Obj)} {σ : St} {H : Hp} {s : Shared} {Q : VK} {us : List Value} {vs : List V} (F : FnOk X.prog X.w X.K X.mg X.base CX k f fd ps sp) (hr : Room k X.A) (hb : Binds X.K fd ps ds) (hd : Vals dvs ds) (hx : Passes CX X E)
    (I : Inv X pins σ H s) (r : Vals vs us) (h : sp (vs ++ dvs) H Q E) : wpAny (model X.prog X.w) X.A (call (.ref f) us) (EP X pins σ Q) X.xe s := by
  have r2 : Vals (vs ++ dvs) (us ++ ds) := r.append hd
  have hl : (us ++ ds).length = ps.length := by rw [← r2.length]; exact F.len _ _ _ _ h
  refine wpAny_call (codeAny_mono (F.run X.A X.stack s H ⟨us, []⟩ (us ++ ds) (vs ++ dvs) Q E hr I.env0 (hb s us I.kIn hl) r2 h) fun r s' hq => ?_)
  cases r with
  | error e => exact hx pins σ H s e s' I hq
  | ok fl =>
    cases fl with
    | ret u => exact I.after hq
    | next => exact False.elim hq
    | brk => exact False.elim hq
    | cont => exact False.elim hq
theorem pe_call (F : FnOk X.prog X.w X.K X.mg X.base CX k f fd ps sp) (hr : Room k X.A) (hg : Gl X x) (hm : X.mg x = some (.ref f)) (hk : PySem.W.keepIn X.K (.ref f) = true) (hb : Binds X.K fd ps ds) (hd : Vals dvs ds) (hx : Passes CX X E)
    (ha : PA X (e :: es) t) (hdb : (x == ("__debug__" : Str)) = false := by decide) (he : starEach (e :: es) X.env = (false, eval e X.env) :: starEach es X.env := by rfl) (hpl : (backTo pos (starEach es X.env)).any (·.1) = false := by rfl) :
    PE X (.Call (.Name x p) (e :: es) [] pos) (tCall sp dvs E t) := by
  intro pins s σ H Q I h
  refine wpAny_Call_Name_kw (ld_glob I hg hm ?_ hdb)
  refine PySem.W.callWith_K (h₀ := X.base) I.ok.mod.kin hk (thn (ha pos pins s σ H _ I h) fun us s1 ⟨vs, H1, I1, r, q⟩ => ⟨I1.kIn, ?_⟩) he hpl
  exact run_fn F hr hb hd hx I1 r q
structure Mk (K : PySem.W.Frag) (C f : Addr) : Prop where
  makes : PySem.W.makesIn K C = true
  init : PySem.W.findIn K (.ref C) "__init__" = some (some (.ref f))
  fn : PySem.W.isFn K (.ref f) = true
  kp : PySem.W.keepIn K (.ref C) = true
end
section
variable {X : Cx} {CX : CXT} {k : Nat} {f C : Addr} {fd : FuncData} {ps ks : List Str} {sp : Sp} {E : XK} {x m : Str} {p pos apos kpos : Pos} {e o : Expr} {es : List Expr} {kws : List Keyword} {te ta : TE} {t tk : TA} {nm : Option Str}
structure KBinds (K : PySem.W.Frag) (fd : FuncData) (ps ks : List Str) (g : List Value → List Value → List Value) (gV : List V → List V → List V) : Prop where
  to : ∀ (s : Shared) (us ws : List Value), K.In s.heap → (g us ws).length = ps.length → BindsTo s fd ⟨us, ks.zip ws⟩ (ps.zip (g us ws))
  rel : ∀ {vs : List V} {us : List Value} {zs : List V} {ws : List Value}, Vals vs us → Vals zs ws → Vals (gV vs zs) (g us ws)
variable {g : List Value → List Value → List Value} {gV : List V → List V → List V}
end
structure FnScope (N P : List Str) (sc : Scope) : Prop where
  kind : sc.kind = .function
  co : sc.isCoroutine = false
  gen : sc.isGenerator = false
  nd : N.Nodup
  pre : N.take P.length = P
  par : ∀ x ∈ P, sc.names.lookup x = some .local ∨ sc.names.lookup x = some .cell
  nofree : ∀ y ∈ sc.names, y.2 ≠ .free
theorem bindL_out {kindOf : Str → Option NameKind} {x : Str} : ∀ {binds : List (Str × Value)} {m : Str → Option Value}, (∀ v, (x, v) ∉ binds) → bindL kindOf binds m x = m x
  | [], _, _ => rfl
  | (n, v) :: r, m, h => by
    unfold bindL
    rw [bindL_out fun w hw => h w (List.mem_cons_of_mem _ hw)]
    split
    · have : x ≠ n := by rintro rfl; exact h v List.mem_cons_self
      simp [this]
    · rfl
theorem bindC_out {kindOf : Str → Option NameKind} {x : Str} : ∀ {binds : List (Str × Value)} {m : Str → Option Value}, (∀ v, (x, v) ∉ binds) → bindC kindOf binds m x = m x
  | [], _, _ => rfl
  | (n, v) :: r, m, h => by
    unfold bindC
    rw [bindC_out fun w hw => h w (List.mem_cons_of_mem _ hw)]
    split
    · rfl
    · have : x ≠ n := by rintro rfl; exact h v List.mem_cons_self
      simp [this]
theorem bindL_get {kindOf : Str → Option NameKind} {x : Str} {v : Value} : ∀ {P : List Str} {vs : List Value} {i : Nat} {m : Str → Option Value}, P.Nodup → P[i]? = some x → vs[i]? = some v → kindOf x = some .local →
    bindL kindOf (P.zip vs) m x = some v
  | [], _, _, _, _, h, _, _ => by simp at h
  | _ :: _, [], _, _, _, _, h, _ => by simp at h
  | p :: P, w :: vs, 0, m, nd, h1, h2, hk => by
    simp at h1 h2; subst h1; subst h2
    show bindL kindOf ((p, w) :: P.zip vs) m p = _
    unfold bindL
    rw [bindL_out fun v hv => (List.nodup_cons.mp nd).1 (List.of_mem_zip hv).1, if_pos hk]
    simp
  | p :: P, w :: vs, i + 1, m, nd, h1, h2, hk => by
    show bindL kindOf ((p, w) :: P.zip vs) m x = _
    unfold bindL
    exact bindL_get (i := i) (List.nodup_cons.mp nd).2 (by simpa using h1) (by simpa using h2) hk
theorem bindC_get {kindOf : Str → Option NameKind} {x : Str} {v : Value} : ∀ {P : List Str} {vs : List Value} {i : Nat} {m : Str → Option Value}, P.Nodup → P[i]? = some x → vs[i]? = some v → kindOf x ≠ some .local →
    bindC kindOf (P.zip vs) m x = some v
  | [], _, _, _, _, h, _, _ => by simp at h
  | _ :: _, [], _, _, _, _, h, _ => by simp at h
  | p :: P, w :: vs, 0, m, nd, h1, h2, hk => by
    simp at h1 h2; subst h1; subst h2
    show bindC kindOf ((p, w) :: P.zip vs) m p = _
    unfold bindC
    rw [bindC_out fun v hv => (List.nodup_cons.mp nd).1 (List.of_mem_zip hv).1, if_neg hk]
    simp
  | p :: P, w :: vs, i + 1, m, nd, h1, h2, hk => by
    show bindC kindOf ((p, w) :: P.zip vs) m x = _
    unfold bindC
    exact bindC_get (i := i) (List.nodup_cons.mp nd).2 (by simpa using h1) (by simpa using h2) hk
def start (N : List Str) (vs : List V) : St := vs.map some ++ List.replicate (N.length - vs.length) none
def cxOf (CX : CXT) (P : Program) (w : World) (K : PySem.W.Frag) (mg : Str → Option Value) (base : Heap) (N : List Str) (qual : Str) (scope : Scope) (f : Addr) (cd : Value) (A : Around) (outer : List Env) (s : Shared) (H : Hp) (E : XK) : Cx where
  prog := P
  w := w
  K := K
  mg := mg
  base := base
  A := A.deeper (envOfC qual scope s.heap.objs.size f cd)
  N := N
  s₀ := s
  H₀ := H
  env := envOfC qual scope s.heap.objs.size f cd
  outer := outer
  stack := envOfC qual scope s.heap.objs.size f cd :: outer
  ex := []
  calm := true
  fn := fun _ => true
  pn := []
  xe := fun e s' => wpAny (model P w) (A.deeper (envOfC qual scope s.heap.objs.size f cd)) (leaving (envOfC qual scope s.heap.objs.size f cd) e) (fun _ s'' => CX outer H s E e s'') (fun e' s'' => CX outer H s E e' s'') s'
theorem cell_has {sc : Scope} {n : Nat} {x : Str} (h : sc.names.lookup x = some .cell) : ∃ c, (cellsFrom n sc.names []).lookup x = some c := by
  have q := PySem.W.cellsFrom_some sc.names n [] (.inl h)
  exact Option.isSome_iff_exists.mp q
theorem inv_start {CX : CXT} {P : Program} {w : World} {K : PySem.W.Frag} {mg : Str → Option Value} {base : Heap} {N ps : List Str} {qual : Str} {scope : Scope} {f : Addr} {cd : Value} {A : Around} {outer : List Env} {s s1 : Shared} {H : Hp} {E : XK} {us : List Value} {vs : List V}
    (S : FnScope N ps scope) (hd : A.handled = none) (e0 : Env0 P w K mg base A outer s H) (hl : vs.length = ps.length) (r : Vals vs us)
    (x : InCallC s s.heap.objs.size (bindL (envOfC qual scope s.heap.objs.size f cd).kindOf (ps.zip us) fun _ => none) (cellsFrom (s.heap.objs.size + 1) scope.names []) (bindC (envOfC qual scope s.heap.objs.size f cd).kindOf (ps.zip us) fun _ => none) s1) :
    Inv (cxOf CX P w K mg base N qual scope f cd A outer s H E) [] (start N vs) H s1 := by
  have hpl : ps.length ≤ N.length := by have := congrArg List.length S.pre; rw [List.length_take] at this; omega
  obtain ⟨h1, tk, rfl, hk⟩ := x.done
  have noA : ∀ b : Addr, b ∉ (cxOf CX P w K mg base N qual scope f cd A outer s H E).ex := fun b z => absurd (show b ∈ ([] : List Addr) from z) (by simp)
  refine ⟨⟨e0.mod, S.kind, rfl, rfl, Nat.le_refl _, fun y z c h1 h2 => ?_, fun y hy => ?_, fun y c _ h => ?_, fun _ => hd, Around.frames_deeper e0.frames, .inr ⟨rfl, rfl⟩, fun b z => absurd z (noA b), e0.bs, e0.bsz, fun b _ _ => noA b, fun b z => absurd z (noA b), e0.funs, e0.frf⟩,
    rfl, e0.bare, Un.kept hk, ⟨_, x.toInCall.ns, fun i y v h1 h2 h3 => ?_⟩, fun y c h => ⟨_, x.cell y c h⟩, e0.hok.fresh (Nat.le_refl _), fun y c h => ?_, fun p hp => absurd (show p ∈ ([] : List (Addr × Obj)) from hp) (by simp), e0.hok.kept hk, ?_⟩
  · exact name_of_addr x.apart (PySem.mem_of_lookup h1) (PySem.mem_of_lookup h2)
  · have hy : scope.names.lookup y = some .cell ∨ scope.names.lookup y = some .free := hy
    rcases hy with hy | hy
    · exact cell_has hy
    · exact absurd rfl (S.nofree _ (PySem.mem_of_lookup hy))
  · exact Nat.le_of_lt (x.above y c (PySem.mem_of_lookup h))
  · have hi : i < vs.length := by
      unfold start at h2
      by_cases hi : i < vs.length
      · exact hi
      · rw [List.getElem?_append_right (by simpa using hi)] at h2
        rw [List.getElem?_replicate] at h2
        split at h2 <;> cases h2
    have ha : vs[i]? = some v := by
      unfold start at h2
      rw [List.getElem?_append_left (by simpa using hi), List.getElem?_map] at h2
      cases e : vs[i]? with
      | none => rw [e] at h2; cases h2
      | some a => rw [e] at h2; cases h2; rfl
    obtain ⟨u, hu, rv⟩ := r.get ha
    have hp : ps[i]? = some y := by
      rw [← S.pre, List.getElem?_take_of_lt (by omega)]; exact h1
    have ndP : ps.Nodup := by rw [← S.pre]; exact S.nd.sublist (List.take_sublist _ _)
    refine ⟨u, rv, ?_⟩
    rcases S.par y (List.mem_of_getElem? hp) with k | k
    · exact .inl ⟨k, bindL_get ndP hp hu k⟩
    · obtain ⟨c, e⟩ := cell_has (n := s.heap.objs.size + 1) k
      refine .inr ⟨.inl k, c, e, ?_⟩
      have q := x.cell y c e
      rw [bindC_get ndP hp hu (by show scope.names.lookup y ≠ _; rw [k]; decide)] at q
      exact q
  · exact e0.hok.fresh (Nat.le_of_lt (x.above y c (PySem.mem_of_lookup h)))
  · unfold start
    show _ = N.length
    rw [List.length_append, List.length_map, List.length_replicate]
    omega
theorem fn_of {CX : CXT} {P : Program} {w : World} {K : PySem.W.Frag} {mg : Str → Option Value} {base : Heap} {k : Nat} {f : Addr} {name qual : Str} {params : Arguments} {body : List Stmt} {scope : Scope} {dV kV doc pm cdv ct oc : Value} {an od : Option Addr}
    {osl : Array (Option Value)} {N ps : List Str} {sp : Sp} (lk : K.lookup f = some ⟨oc, od, .func (PySem.W.fnOf name qual params body scope dV kV doc pm an cdv ct), osl⟩) (hcd : PySem.W.codeIn K cdv qual = true) (S : FnScope N ps scope)
    (len : ∀ vs H Q E, sp vs H Q E → vs.length = ps.length)
    (hbody : ∀ (A : Around) (outer : List Env) (s : Shared) (H : Hp) (vs : List V) (Q : VK) (E : XK), Room k (A.deeper (envOfC qual scope s.heap.objs.size f cdv)) → sp vs H Q E →
      ∃ t, PSs (cxOf CX P w K mg base N qual scope f cdv A outer s H E) body t ∧ t { nx := fun _ H' => Q .non H', rt := Q } (start N vs) H) :
    FnOk P w K mg base CX (k + 1) f (PySem.W.fnOf name qual params body scope dV kV doc pm an cdv ct) ps sp := by
  refine ⟨len, fun A outer s H args us vs Q E hr e0 hb r hsp => ?_⟩
  have hl := len _ _ _ _ hsp
  have KX : K.In s.heap := e0.mod.kin.keeps fun b o e => (e0.bs b o e).1
  have lim : s.heap.NoLimit := e0.mod.nolimit.keeps fun b o e => (e0.bs b o e).1
  have hkind : ∀ y ∈ ps.zip us, scope.names.lookup y.1 = some .local ∨ (scope.names.lookup y.1 = some .cell ∧ ((cellsFrom (s.heap.objs.size + 1) scope.names []).lookup y.1).isSome = true) := fun ⟨n, v⟩ hy => by
    rcases S.par n (List.of_mem_zip hy).1 with q | q
    · exact .inl q
    · exact .inr ⟨q, PySem.W.cellsFrom_some _ _ _ (.inl q)⟩
  refine codeAny_call_function hr.depth (KX _ _ lk) rfl S.co S.gen rfl (PySem.W.codeRec_of KX hcd) (hb _ _ _ _ ?_)
  refine wpAny_newFunctionEnv_cells S.kind hkind fun env he s1 x => ?_
  subst he
  refine ⟨lim.keeps x.toInCall.keep, codeAny_func ?_⟩
  obtain ⟨t, ht, hq⟩ := hbody A outer s H vs Q E (hr.deeper _) hsp
  have I : Inv (cxOf CX P w K mg base N qual scope f cdv A outer s H E) [] (start N vs) H s1 := inv_start S hr.hd e0 hl r x
  refine wpAny_mono (ht [] s1 (start N vs) H _ I hq) (fun fl s' hs => ?_) fun e s' hs => hs
  have fin : ∀ {σ' : St} {H' : Hp} {v : V} {u : Value}, Inv (cxOf CX P w K mg base N qual scope f cdv A outer s H E) [] σ' H' s' → RelV v u → Q v H' → CE outer P w H s Q u s' :=
    fun {σ' H' v u} J rv q => ⟨v, H', J.os, J.bare, J.base, J.hok, rv, q⟩
  cases fl with
  | ret u =>
    obtain ⟨v, σ', H', J, rv, q⟩ := hs
    exact fin J rv q
  | next =>
    obtain ⟨σ', H', J, q⟩ := hs
    exact fin (v := V.non) (u := Value.none) J rfl q
  | brk =>
    obtain ⟨_, _, _, q⟩ := hs
    exact False.elim q
  | cont =>
    obtain ⟨_, _, _, q⟩ := hs
    exact False.elim q
end L2
namespace L2
open PySem PySem.Spec PyProof.Rows
section
variable {X : Cx} {x : Str} {p pos : Pos} {e : Expr} {es : List Expr} {t : TA} {id T : String} {r : List V → Hp → VK → Prop}
def tCB (r : List V → Hp → VK → Prop) (t : TA) : TE := fun σ H Q => t σ H fun vs H1 => r vs H1 Q
theorem pe_callB (hc : CallR X (.builtin id) r) (hg : Gl X x) (hm : X.mg x = none) (hv : bootBuiltins x = some (.builtin id)) (ha : PA X (e :: es) t) (hn : x ≠ "__name__" := by decide) (hdb : (x == ("__debug__" : Str)) = false := by decide)
    (he : starEach (e :: es) X.env = (false, eval e X.env) :: starEach es X.env := by rfl) (hpl : (backTo pos (starEach es X.env)).any (·.1) = false := by rfl) : PE X (.Call (.Name x p) (e :: es) [] pos) (tCB r t) := by
  intro pins s σ H Q I h
  refine wpAny_Call_Name_kw (ld_blt I hg hm hv ?_ hn hdb)
  exact PyProof.Rows.callWith_builtin1 (thn (ha pos pins s σ H _ I h) fun us s1 ⟨vs, H1, I1, r1, q1⟩ => hc pins s1 σ H1 vs us Q I1 r1 q1) he hpl
theorem pe_callTy (hc : CallR X (.type T) r) (hg : Gl X x) (hm : X.mg x = none) (hv : bootBuiltins x = some (.type T)) (ha : PA X (e :: es) t) (hn : x ≠ "__name__" := by decide) (hdb : (x == ("__debug__" : Str)) = false := by decide)
    (he : starEach (e :: es) X.env = (false, eval e X.env) :: starEach es X.env := by rfl) (hpl : (backTo pos (starEach es X.env)).any (·.1) = false := by rfl) : PE X (.Call (.Name x p) (e :: es) [] pos) (tCB r t) := by
  intro pins s σ H Q I h
  refine wpAny_Call_Name_kw (ld_blt I hg hm hv ?_ hn hdb)
  exact PyProof.Rows.callWith_type1 (thn (ha pos pins s σ H _ I h) fun us s1 ⟨vs, H1, I1, r1, q1⟩ => hc pins s1 σ H1 vs us Q I1 r1 q1) he hpl
end
end L2
namespace HT
open PySem PyProof.Rows
section
open PySem.SeqAt
open PySem.AutoSeq1 (wpAny_loadPart')
open PySem.MeetsSeq PySem.MeetsSeq2 PySem.MeetsSeq3
end
section
variable {prog : Program} {w : World} {A : Around} {E : Value → Shared → Prop} {s : Shared}
theorem cat_tup {t b : Addr} {vs ws : List Value} {Q : Value → Shared → Prop} (ht : IsTup s.heap t vs.toArray) (hb : IsTup s.heap b ws.toArray) (hv : vs ≠ [])
    (h1 : ws = [] → Q (.ref t) s) (h2 : ws ≠ [] → Q (.ref s.heap.objs.size) { s with heap := s.heap.push { cls := .type "tuple", data := .seq (vs ++ ws).toArray } })
    (hsz : vs.length + ws.length ≤ sizeLine) : wpAny (model prog w) A (binaryOp .Add (.ref t) (.ref b)) Q E s := by
  obtain ⟨⟨cls, dd, data, sl⟩, ho, hc, n, hd⟩ := id ht
  obtain ⟨⟨cls2, dd2, data2, sl2⟩, ho2, hc2, n2, hd2⟩ := id hb
  simp only at hc hd hc2 hd2
  subst hc hd hc2 hd2
  have e : vs.toArray ++ ws.toArray = (vs ++ ws).toArray := by simp
  by_cases hw : ws = []
  · exact concat_meets ⟨_, ho, rfl⟩ ⟨_, ho2, rfl⟩ noFill_tuple_add seq_tuple_add PySem.F.slot_tuple_add PySem.F.entry_tuple_add (PySem.F.args_tuple_add_2 _ _)
      (tuple_addW1 t b vs.toArray ws.toArray n n2 dd dd2 sl sl2 (by simpa using hv) (by simp [hw])) ⟨ho, ho2, h1 hw⟩
  · refine concat_meets ⟨_, ho, rfl⟩ ⟨_, ho2, rfl⟩ noFill_tuple_add seq_tuple_add PySem.F.slot_tuple_add PySem.F.entry_tuple_add (PySem.F.args_tuple_add_2 _ _)
      (tuple_addW2 t b vs.toArray ws.toArray n n2 dd dd2 sl sl2 (by simpa using hv) (by simpa using hw) (by rw [List.size_toArray, List.size_toArray]; exact hsz)) ⟨ho, ho2, ?_⟩
    rw [e]
    exact h2 hw
def sIx (n d : Nat) : Option Int → Nat
  | none => d
  | some v => if v < 0 then (v + (n : Int)).toNat else min v.toNat n
theorem sIx_le (n d : Nat) (hd : d ≤ n) (o : Option Int) : sIx n d o ≤ n := by
  cases o with
  | none => exact hd
  | some v =>
    show (if v < 0 then (v + (n : Int)).toNat else min v.toNat n) ≤ n
    by_cases hv : v < 0
    · rw [if_pos hv]; omega
    · rw [if_neg hv]; exact Nat.min_le_right _ _
theorem clip_eq (v : Int) (n d : Nat) : (if v < 0 then max (v + (n : Int)) 0 else min v (n : Int)) = ((sIx n d (some v) : Nat) : Int) := by
  show (if v < 0 then max (v + (n : Int)) 0 else min v (n : Int)) = (((if v < 0 then (v + (n : Int)).toNat else min v.toNat n) : Nat) : Int)
  by_cases hv : v < 0
  · simp only [if_pos hv]; omega
  · simp only [if_neg hv]; omega
theorem adjust_gen (lo hi : Option Int) (n : Nat) : Builtin.Slice.sliceAdjust lo hi 1 (n : Int) = (((sIx n 0 lo : Nat) : Int), ((sIx n n hi : Nat) : Int)) := by
  have h1 : ¬ ((1 : Int) < 0) := by omega
  unfold Builtin.Slice.sliceAdjust
  simp only [h1, if_false]
  refine Prod.ext ?_ ?_
  · cases lo with
    | none => rfl
    | some v => exact clip_eq v n 0
  · cases hi with
    | none => rfl
    | some v => exact clip_eq v n n
theorem places_gen (i j : Nat) : Builtin.Slice.slicePlaces (i : Int) (j : Int) 1 = j - i := by
  unfold Builtin.Slice.slicePlaces
  have h1 : (1 : Int) > 0 := by omega
  simp only [h1, if_true, Int.ediv_one]
  split <;> omega
theorem slicePart_ {v : Value} {o : Option Int} {Q : Option Int → Shared → Prop} (p : IsPart v o) (h : Q o s) : wpAny (model prog w) A (Builtin.Slice.slicePartIndex v) Q E s := by
  cases p with
  | none => exact slicePart_none h
  | int i t => exact slicePart_int h
theorem sliceApplied_gen {sl : Addr} {vl vu : Value} {lo hi : Option Int} {n : Nat} {Q : Int × Int × Nat → Shared → Prop} (hs : s.heap.IsSliceOf sl vl vu .none) (pl : IsPart vl lo) (pu : IsPart vu hi)
    (h : Q (((sIx n 0 lo : Nat) : Int), 1, sIx n n hi - sIx n 0 lo) s) : wpAny (model prog w) A (Builtin.Slice.sliceApplied (.ref sl) (pure (n : Int))) Q E s := by
  obtain ⟨os, hos, hcs, hds⟩ := id hs
  unfold Builtin.Slice.sliceApplied Builtin.Slice.sliceFields
  refine wpAny_bind (wpAny_bind (wpAny_field hos hds (x := vl) rfl (wpAny_bind (wpAny_field hos hds (x := vu) rfl (wpAny_bind (wpAny_field hos hds (x := .none) rfl (wpAny_pure ?_)))))))
  refine wpAny_bind (slicePart_none ?_)
  show wpAny _ _ (if ((1 : Int) == 0) = true then _ else _) _ _ s
  rw [if_neg (by decide)]
  refine wpAny_bind (slicePart_ pl (wpAny_bind (slicePart_ pu (wpAny_bind (wpAny_pure ?_)))))
  show wpAny _ _ (match Builtin.Slice.sliceAdjust lo hi 1 (n : Int) with | (lo, hi) => pure (lo, (1 : Int), Builtin.Slice.slicePlaces lo hi 1)) _ _ s
  rw [adjust_gen lo hi n]
  show wpAny _ _ (pure (((sIx n 0 lo : Nat) : Int), (1 : Int), Builtin.Slice.slicePlaces ((sIx n 0 lo : Nat) : Int) ((sIx n n hi : Nat) : Int) 1)) _ _ s
  rw [places_gen]
  exact wpAny_pure h
theorem pick_gen (xs : Array Value) (i k : Nat) : ((List.range k).filterMap fun (m : Nat) => xs[((i : Int) + (m : Int) * 1).toNat]?).toArray = ((xs.toList.drop i).take k).toArray := by
  have e : (fun (m : Nat) => xs[((i : Int) + (m : Int) * 1).toNat]?) = fun m => xs[i + m]? := by
    funext m
    have : ((i : Int) + (m : Int) * 1).toNat = i + m := by omega
    rw [this]
  rw [e]
  have := pick_run xs i k
  rw [List.filterMap_map] at this
  have e2 : ((fun x => xs[x]?) ∘ fun x => i + x) = fun m => xs[i + m]? := rfl
  rw [e2] at this
  rw [this]
theorem getItem_tuple_cut {t sl : Addr} {items : Array Value} {vl vu : Value} {lo hi : Option Int} {Q : Value → Shared → Prop} (ht : IsTup s.heap t items) (hs : s.heap.IsSliceOf sl vl vu .none) (pl : IsPart vl lo) (pu : IsPart vu hi)
    (hw : ¬ (sIx items.size 0 lo = 0 ∧ sIx items.size items.size hi = items.size))
    (h : Q (.ref s.heap.objs.size) { s with heap := s.heap.push { cls := .type "tuple", data := .seq ((items.toList.drop (sIx items.size 0 lo)).take (sIx items.size items.size hi - sIx items.size 0 lo)).toArray } })
    (hsz : items.size ≤ sizeLine) : wpAny (model prog w) A (getItem (.ref t) (.ref sl)) Q E s := by
  have htake : sizeOk (.seq ((items.toList.drop (sIx items.size 0 lo)).take (sIx items.size items.size hi - sIx items.size 0 lo)).toArray) := by
    show ((items.toList.drop (sIx items.size 0 lo)).take (sIx items.size items.size hi - sIx items.size 0 lo)).toArray.size ≤ sizeLine
    rw [List.size_toArray, List.length_take, List.length_drop, Array.length_toList]
    omega
  have hj : sIx items.size items.size hi ≤ items.size := sIx_le _ _ (Nat.le_refl _) hi
  obtain ⟨os, hos, hcs, hds⟩ := id hs
  have hTs : s.TypeIs (.ref sl) "slice" := ⟨os, hos, hcs⟩
  unfold getItem
  try with_reducible refine wpAny_holding ?_
  first | refine wpAny_bind (wpAny_pure ?_) | skip
  refine wpAny_bind (wpAny_sequenceKey ht.typeIs (by decide) ?_)
  refine wpAny_bind (wpAny_callSpecial?_slot (name := Str.ofString "__getitem__") ht.typeIs PyProof.Rows.slot_tuple_getitem
    (wpAny_call_entry PyProof.Rows.slot_tuple_getitem ht.typeIs entry_tuple_getitem ?_ (args_tuple_getitem _ _)))
  show wpAny _ _ (Builtin.Tuple.tupleItemsOf (.ref t) >>= _) _ _ s
  refine wpAny_bind (tupleItemsOf_ ht ?_)
  refine wpAny_bind (wpAny_typeOf hTs ?_)
  rw [if_pos (by decide)]
  refine wpAny_bind (sliceApplied_gen hs pl pu ?_)
  have hno : ¬ ((((sIx items.size 0 lo : Nat) : Int) == 0 && (1 : Int) == 1 && (sIx items.size items.size hi - sIx items.size 0 lo) == items.size) = true) := by
    intro q
    rw [Bool.and_eq_true, Bool.and_eq_true] at q
    have q1 : ((sIx items.size 0 lo : Nat) : Int) = 0 := eq_of_beq q.1.1
    have q2 : sIx items.size items.size hi - sIx items.size 0 lo = items.size := eq_of_beq q.2
    exact hw ⟨by omega, by omega⟩
  show wpAny _ _ (if (((sIx items.size 0 lo : Nat) : Int) == 0 && (1 : Int) == 1 && (sIx items.size items.size hi - sIx items.size 0 lo) == items.size) = true then _ else _) _ _ s
  rw [if_neg hno, pick_gen]
  first
    | exact wpAny_bind (m := Builtin.Tuple.tupleExact _) (wpAny_newObj_type (wpAny_pure ⟨_, rfl, wpAny_pure h⟩) htake)
    | exact wpAny_bind (m := Builtin.Tuple.tupleExact _) (wpAny_newObj_type (wpAny_bind (wpAny_pure (wpAny_pure ⟨_, rfl, wpAny_pure h⟩))) htake)
    | exact wpAny_bind (wpAny_bind (m := Builtin.Tuple.tupleExact _) (wpAny_newObj_type (wpAny_pure (wpAny_pure ⟨_, rfl, wpAny_pure h⟩)) htake))
    | exact wpAny_bind (wpAny_bind (m := Builtin.Tuple.tupleExact _) (wpAny_newObj_type (wpAny_pure ⟨_, rfl, wpAny_pure h⟩) htake))
end
end HT
namespace L2
open PySem PySem.Spec PyProof.Rows
abbrev TO := St → Hp → (Option Int → Hp → Prop) → Prop
def PO (X : Cx) (e : Option Expr) (t : TO) : Prop :=
  ∀ (pins : List (Addr × Obj)) (s : Shared) (σ : St) (H : Hp) (Q : Option Int → Hp → Prop), Inv X pins σ H s → t σ H Q →
    wpAny (model X.prog X.w) X.A (evalPart e X.env) (fun u s' => ∃ o H', Inv X pins σ H' s' ∧ IsPart u o ∧ Q o H') X.xe s
def tNoPart : TO := fun _ H Q => Q none H
def tPart (t : TE) : TO := fun σ H Q => t σ H fun x H1 => ∃ i, x = .int i ∧ Q (some i) H1
section
variable {X : Cx} {e : Expr} {te : TE} {lo hi : Option Expr} {tl th : TO} {pos p2 : Pos}
theorem po_none : PO X none tNoPart := by
  intro pins s σ H Q I h
  rw [evalPart_none]
  exact wpAny_pure ⟨none, H, I, .none, h⟩
theorem po_some (h : PE X e te) : PO X (some e) (tPart te) := by
  intro pins s σ H Q I hw
  rw [evalPart_some]
  refine thn (h pins s σ H _ I hw) fun u s1 ⟨x, H1, I1, r1, q1⟩ => ?_
  obtain ⟨i, rfl, q⟩ := q1
  obtain ⟨t, rfl⟩ := r1
  exact ⟨some i, H1, I1, .int i t, q⟩
def SlR (X : Cx) (r : V → Option Int → Option Int → Hp → VK → Prop) : Prop :=
  ∀ (pins : List (Addr × Obj)) (s : Shared) (σ : St) (H : Hp) (x : V) (v vl vu : Value) (lo hi : Option Int) (sl : Addr) (Q : VK), Inv X pins σ H s → RelV x v → s.heap.IsSliceOf sl vl vu .none → IsPart vl lo → IsPart vu hi → r x lo hi H Q →
    ∃ T id, typeLookup (.type T) "__getitem__" = pure (some (.builtin id)) ∧ s.TypeIs v T ∧ wpAny (model X.prog X.w) X.A (getItem v (.ref sl)) (EP X pins σ Q) X.xe s
theorem SlR.or {r r' : V → Option Int → Option Int → Hp → VK → Prop} (h : SlR X r) (h' : SlR X r') : SlR X (fun x lo hi H Q => r x lo hi H Q ∨ r' x lo hi H Q) := by
  intro pins s σ H x v vl vu lo hi sl Q I rx hs pl pu q
  rcases q with q | q
  · exact h pins s σ H x v vl vu lo hi sl Q I rx hs pl pu q
  · exact h' pins s σ H x v vl vu lo hi sl Q I rx hs pl pu q
def tSl (r : V → Option Int → Option Int → Hp → VK → Prop) (te : TE) (tl th : TO) : TE := fun σ H Q => te σ H fun x H1 => tl σ H1 fun l H2 => th σ H2 fun u H3 => r x l u H3 Q
theorem pe_slice {r : V → Option Int → Option Int → Hp → VK → Prop} (hr : SlR X r) (he : PE X e te) (hl : PO X lo tl) (hu : PO X hi th) : PE X (.Subscript e (.Slice lo hi none p2) pos) (tSl r te tl th) := by
  intro pins s σ H Q I h
  refine Subscript_ (thn (he pins s σ H _ I h) fun v s1 ⟨x, H1, I1, r1, q1⟩ => ?_)
  refine wpAny_Slice (thn (hl pins s1 σ H1 _ I1 q1) fun vl s2 ⟨l, H2, I2, pl, q2⟩ => thn (hu pins s2 σ H2 _ I2 q2) fun vu s3 ⟨u, H3, I3, pu, q3⟩ => ?_)
  rw [evalPart_none]
  refine wpAny_pure ?_
  have I4 : Inv X pins σ H3 { s3 with heap := s3.heap.push { cls := .type "slice", data := .fields #[vl, vu, .none] } } := I3.kept (t' := s3.toks) fun b ob q => Heap.get?_push_of_some _ q
  obtain ⟨T, id, hT, ht, hg⟩ := hr pins { s3 with heap := s3.heap.push { cls := .type "slice", data := .fields #[vl, vu, .none] } } σ H3 x v vl vu l u s3.heap.objs.size Q I4 r1 (Heap.IsSliceOf.new ..) pl pu q3
  show wpAny (model X.prog X.w) X.A (subscriptTail e (.Slice lo hi none p2) v (.ref s3.heap.objs.size)) (EP X pins σ Q) X.xe { s3 with heap := s3.heap.push { cls := .type "slice", data := .fields #[vl, vu, .none] } }
  exact tail_any (ops := [.ref s3.heap.objs.size, v]) ht hT hg (by with_unfolding_all rfl)
def cutV (xs : List V) (lo hi : Option Int) : List V := (xs.drop (HT.sIx xs.length 0 lo)).take (HT.sIx xs.length xs.length hi - HT.sIx xs.length 0 lo)
theorem cutV_length (xs : List V) (lo hi : Option Int) : (cutV xs lo hi).length ≤ xs.length := by
  unfold cutV
  rw [List.length_take, List.length_drop]
  omega
def rSlT (K : PySem.W.Frag) : V → Option Int → Option Int → Hp → VK → Prop := fun x lo hi H Q => ∃ a xs, x = .ref a ∧ SqT K H a xs ∧
  ¬ (HT.sIx xs.length 0 lo = 0 ∧ HT.sIx xs.length xs.length hi = xs.length) ∧ ∀ p, H p = none → Q (.ref p) (upd H p (.tup (cutV xs lo hi)))
theorem sl_tup : SlR X (rSlT X.K) := by
  intro pins s σ H x v vl vu lo hi sl Q I rx hs pl pu h
  obtain ⟨a, xs, rfl, hx, hw, q⟩ := h
  cases rx
  obtain ⟨its, r, ht, hz⟩ := I.tuple hx
  have hlen : its.toArray.size = xs.length := by rw [List.size_toArray]; exact r.length.symm
  refine ⟨"tuple", _, PyProof.Rows.slot_tuple_getitem.lookup, ht.typeIs, ?_⟩
  refine HT.getItem_tuple_cut ht hs pl pu (by rw [hlen]; exact hw) ?_ (by rw [hlen]; exact hz)
  rw [hlen]
  refine ⟨.ref s.heap.objs.size, _, I.laid (t' := s.toks) (o := .tup (cutV xs lo hi)) (fun b ob q => Heap.get?_push_of_some _ q) (Nat.le_refl _) ?_, rfl, q _ (I.hok.fresh (Nat.le_refl _))⟩
  exact ⟨Nat.le_trans (cutV_length xs lo hi) hz, _, (r.drop (HT.sIx xs.length 0 lo)).take (HT.sIx xs.length xs.length hi - HT.sIx xs.length 0 lo), IsTup.new _ _⟩
def rCatT (K : PySem.W.Frag) : R2 := fun x y H Q => ∃ a b xs ys, x = .ref a ∧ y = .ref b ∧ SqT K H a xs ∧ SqT K H b ys ∧ xs ≠ [] ∧ xs.length + ys.length ≤ sizeLine ∧
  (ys = [] → Q (.ref a) H) ∧ (ys ≠ [] → ∀ p, H p = none → Q (.ref p) (upd H p (.tup (xs ++ ys))))
theorem Vals.nil_iff {xs : List V} {us : List Value} (r : Vals xs us) : us = [] ↔ xs = [] := by
  cases r with
  | nil => simp
  | cons _ _ => simp
theorem op_catT : OpR X (binaryOp .Add) (rCatT X.K) := by
  intro pins s σ H x y v u Q I rx ry h
  obtain ⟨a, b, xs, ys, rfl, rfl, ha, hb, hx, hz, q1, q2⟩ := h
  cases rx
  cases ry
  obtain ⟨its, r1, p1, _⟩ := I.tuple ha
  obtain ⟨its2, r2, p2, _⟩ := I.tuple hb
  refine HT.cat_tup p1 p2 (fun z => hx (r1.nil_iff.mp z)) (fun z => ⟨.ref a, H, I, rfl, q1 (r2.nil_iff.mp z)⟩) (fun z => ?_) (by rw [← r1.length, ← r2.length]; exact hz)
  refine ⟨.ref s.heap.objs.size, _, I.laid (t' := s.toks) (o := .tup (xs ++ ys)) (fun b ob q => Heap.get?_push_of_some _ q) (Nat.le_refl _) ?_, rfl, q2 (fun w => z (r2.nil_iff.mpr w)) _ (I.hok.fresh (Nat.le_refl _))⟩
  exact ⟨by rw [List.length_append]; exact hz, _, r1.append r2, IsTup.new _ _⟩
end
end L2
namespace L2
open PySem PySem.Spec PyProof.Rows
def ixN (n : Nat) (i : Int) : Option Nat := if 0 ≤ i then (if i < n then some i.toNat else none) else if -(n : Int) ≤ i then some (i + n).toNat else none
def atI {α : Type} (xs : List α) (i : Int) : Option α := (ixN xs.length i).bind fun j => xs[j]?
theorem ixN_seq {n : Nat} {i : Int} {j : Nat} (h : ixN n i = some j) : seqIndex? i n = some j ∧ j < n ∧ -(n : Int) ≤ i ∧ i < n := by
  unfold ixN at h
  by_cases h0 : 0 ≤ i
  · rw [if_pos h0] at h
    by_cases h1 : i < n
    · rw [if_pos h1] at h
      have e : i.toNat = j := Option.some.inj h
      exact ⟨by rw [seqIndex_of h0 h1, e], by omega, by omega, h1⟩
    · rw [if_neg h1] at h; cases h
  · rw [if_neg h0] at h
    by_cases h1 : -(n : Int) ≤ i
    · rw [if_pos h1] at h
      have e : (i + n).toNat = j := Option.some.inj h
      exact ⟨by rw [seqIndex_neg (by omega) h1, e], by omega, h1, by omega⟩
    · rw [if_neg h1] at h; cases h
theorem atI_get {α : Type} {xs : List α} {i : Int} {v : α} (h : atI xs i = some v) : ∃ j, seqIndex? i xs.length = some j ∧ xs[j]? = some v ∧ j < xs.length ∧ -(xs.length : Int) ≤ i ∧ i < xs.length := by
  unfold atI at h
  cases e : ixN xs.length i with
  | none => rw [e] at h; cases h
  | some j =>
    rw [e] at h
    obtain ⟨h1, h2, h3, h4⟩ := ixN_seq e
    exact ⟨j, h1, h, h2, h3, h4⟩
def PlainIx (b : Expr) : Prop := ∀ o i, subscripted b false o i = operate [o, i] (getItem o i)
def IxR (X : Cx) (r : R2) : Prop :=
  ∀ (value slice : Expr) (pins : List (Addr × Obj)) (s : Shared) (σ : St) (H : Hp) (x y : V) (v u : Value) (Q : VK), Inv X pins σ H s → RelV x v → RelV y u → r x y H Q →
    subscripted slice false v u = operate [v, u] (getItem v u) → wpAny (model X.prog X.w) X.A (subscriptTail value slice v u) (EP X pins σ Q) X.xe s
def MtR (X : Cx) (id : String) (r : V → List V → Hp → VK → Prop) : Prop :=
  ∀ (pins : List (Addr × Obj)) (s : Shared) (σ : St) (H : Hp) (x : V) (xs : List V) (v : Value) (us : List Value) (Q : VK), Inv X pins σ H s → RelV x v → Vals xs us → r x xs H Q →
    wpAny (model X.prog X.w) X.A (call (.builtin id) (v :: us)) (EP X pins σ Q) X.xe s
section
variable {X : Cx} {a b : Expr} {ta tb : TE} {pos : Pos}
theorem IxR.or {r r' : R2} (h : IxR X r) (h' : IxR X r') : IxR X (fun x y H Q => r x y H Q ∨ r' x y H Q) := by
  intro value slice pins s σ H x y v u Q I rx ry q hs
  rcases q with q | q
  · exact h value slice pins s σ H x y v u Q I rx ry q hs
  · exact h' value slice pins s σ H x y v u Q I rx ry q hs
theorem MtR.or {id : String} {r r' : V → List V → Hp → VK → Prop} (h : MtR X id r) (h' : MtR X id r') : MtR X id (fun x xs H Q => r x xs H Q ∨ r' x xs H Q) := by
  intro pins s σ H x xs v us Q I rx rs q
  rcases q with q | q
  · exact h pins s σ H x xs v us Q I rx rs q
  · exact h' pins s σ H x xs v us Q I rx rs q
theorem pe_ix {r : R2} (hr : IxR X r) (ha : PE X a ta) (hb : PE X b tb) (hs : PlainIx b) : PE X (.Subscript a b pos) (tOp r ta tb) := by
  intro pins s σ H Q I h
  exact Subscript_ (binT ha hb I h fun v u s2 x y H2 I2 rx ry q => hr a b pins s2 σ H2 x y v u Q I2 rx ry q (hs _ _))
def rIxL (K : PySem.W.Frag) : R2 := fun x y H Q => ∃ p xs i v, x = .ref p ∧ y = .int i ∧ SqL K H p xs ∧ atI xs i = some v ∧ Q v H
def rIxT (K : PySem.W.Frag) : R2 := fun x y H Q => ∃ p xs i v, x = .ref p ∧ y = .int i ∧ SqT K H p xs ∧ atI xs i = some v ∧ Q v H
def rIxS : R2 := fun x y H Q => ∃ z i c, x = .str z ∧ y = .int i ∧ z.length ≤ sizeLine ∧ atI z.cps.toList i = some c ∧ Q (.str ⟨#[c]⟩) H
theorem ix_list : IxR X (rIxL X.K) := by
  intro value slice pins s σ H x y v u Q I rx ry h hs
  obtain ⟨p, xs, i, z, rfl, rfl, hq, he, q⟩ := h
  cases rx
  obtain ⟨t, rfl⟩ := ry
  obtain ⟨its, r, pl, hz⟩ := I.list hq
  obtain ⟨j, h1, h2, h3, h4, h5⟩ := atI_get he
  obtain ⟨w, ew, rw'⟩ := r.get h2
  have hl := r.length
  have hn := line63
  have fin : EP X pins σ Q w s := ⟨z, H, I, rw', q⟩
  by_cases h0 : 0 ≤ i
  · have hj : i.toNat = j := by
      rw [seqIndex_of h0 h5] at h1
      exact Option.some.inj h1
    exact item_listR pl.isList h0 (by omega) (by rw [hj]; simpa using ew) fin hs
  · have hj : (i + (its.toArray.size : Int)).toNat = j := by
      rw [seqIndex_neg (by omega) h4] at h1
      rw [List.size_toArray, ← hl]
      exact Option.some.inj h1
    exact subscriptTail_builtinR (x := w) pl.isList.typeIs slot_list_getitem.lookup
      (wpAny_getItem_list_neg (Q := fun r s' => r = w ∧ EP X pins σ Q r s') pl.isList (by omega) (by rw [List.size_toArray] <;> omega) (by omega) (by rw [hj]; simpa using ew) ⟨rfl, fin⟩) hs
theorem ix_tup : IxR X (rIxT X.K) := by
  intro value slice pins s σ H x y v u Q I rx ry h hs
  obtain ⟨p, xs, i, z, rfl, rfl, hq, he, q⟩ := h
  cases rx
  obtain ⟨t, rfl⟩ := ry
  obtain ⟨its, r, pl, hz⟩ := I.tuple hq
  obtain ⟨j, h1, h2, h3, h4, h5⟩ := atI_get he
  obtain ⟨w, ew, rw'⟩ := r.get h2
  have hl := r.length
  have hn := line63
  have fin : EP X pins σ Q w s := ⟨z, H, I, rw', q⟩
  exact subscriptTail_builtinR (x := w) pl.typeIs slot_tuple_getitem.lookup
    (getItem_tuple (j := j) (Q := fun r s' => r = w ∧ EP X pins σ Q r s') pl (by omega) (by omega) (by rw [List.size_toArray, ← hl]; exact h1) (by simpa using ew) ⟨rfl, fin⟩) hs
theorem ix_str : IxR X rIxS := by
  intro value slice pins s σ H x y v u Q I rx ry h hs
  obtain ⟨z, i, c, rfl, rfl, hz, he, q⟩ := h
  obtain ⟨t, rfl⟩ := rx
  obtain ⟨t', rfl⟩ := ry
  obtain ⟨j, h1, h2, h3, h4, h5⟩ := atI_get he
  have hl : z.cps.toList.length = z.length := by simp [Str.length]
  rw [hl] at h1 h4 h5
  have hn := line63
  exact tail_any (typeIs_str s z t) slot_str_getitem.lookup (getItem_str (c := c) (by
    have e1 : decide (i < -(2 ^ 63 : Int)) = false := decide_eq_false (by omega)
    have e2 : decide (i ≥ 2 ^ 63) = false := decide_eq_false (by omega)
    rw [e1, e2, Bool.or_false]) (by rw [h1]; simpa using h2) ⟨.str ⟨#[c]⟩, H, I.tok _, ⟨_, rfl⟩, q⟩) hs
def rIx (K : PySem.W.Frag) : R2 := fun x y H Q => rIxL K x y H Q ∨ rIxT K x y H Q ∨ rIxS x y H Q
theorem ix_seq : IxR X (rIx X.K) := ix_list.or (ix_tup.or ix_str)
theorem mapSeq_set (its : List Value) (n j : Nat) (u : Value) : Obj.mapSeq (·.setIfInBounds j u) { cls := .type "list", data := .seq its.toArray n } = { cls := .type "list", data := .seq (its.set j u).toArray n } := by
  simp [Obj.mapSeq]
theorem Inv.lst {pins : List (Addr × Obj)} {σ : St} {H : Hp} {s : Shared} {p : Addr} {xs : List V} (I : Inv X pins σ H s) (h : H p = some (.lst xs)) :
    ∃ (its : List Value) (n : Nat), Vals xs its ∧ s.heap.get? p = some { cls := .type "list", data := .seq its.toArray n } ∧ xs.length ≤ sizeLine := by
  obtain ⟨z, its, n, r, e⟩ := I.hok p _ h
  exact ⟨its, n, r, e, z⟩
theorem Inv.lstUpd {pins : List (Addr × Obj)} {σ : St} {H : Hp} {s : Shared} {p : Addr} {xs ys : List V} {its its' : List Value} {n n' : Nat} {f : Obj → Obj} (I : Inv X pins σ H s) (h : H p = some (.lst xs))
    (ho : s.heap.get? p = some { cls := .type "list", data := .seq its.toArray n }) (hf : f { cls := .type "list", data := .seq its.toArray n } = { cls := .type "list", data := .seq its'.toArray n' }) (r : Vals ys its') (hz : ys.length ≤ sizeLine) (t : Nat) :
    Inv X pins σ (upd H p (.lst ys)) { s with heap := s.heap.update p f, toks := t } := by
  have e : (s.heap.update p f).get? p = some { cls := .type "list", data := .seq its'.toArray n' } := by
    rw [Heap.get?_update_self f ho (by rw [hf] <;> rfl), hf]
  refine I.write (x := p) (e := p) (by rw [h]; trivial) (.inl rfl) (fun b u hb q => (Heap.get?_update_other _ _ (Ne.symm hb)).trans q) ⟨_, e⟩ ?_
  exact ⟨hz, its', n', r, e⟩
def rSetL : V → V → V → Hp → (Hp → Prop) → Prop := fun o i v H Q => ∃ p xs k j, o = .ref p ∧ i = .int k ∧ H p = some (.lst xs) ∧ ixN xs.length k = some j ∧ Q (upd H p (.lst (xs.set j v)))
theorem set_list : PSet X rSetL := by
  intro pins s σ H o i v ov iv u Q I ro ri rv h
  obtain ⟨p, xs, k, j, rfl, rfl, hp, hj, q⟩ := h
  cases ro
  obtain ⟨t, rfl⟩ := ri
  obtain ⟨its, n, r, ho, hz⟩ := I.lst hp
  obtain ⟨h1, h2, h3, h4⟩ := ixN_seq hj
  have hl := r.length
  have hn := line63
  have I' : Inv X pins σ (upd H p (.lst (xs.set j v))) { s with heap := s.heap.update p (Obj.mapSeq (·.setIfInBounds j u)) } :=
    I.lstUpd hp ho (mapSeq_set its n j u) (r.set rv j) (by rw [List.length_set]; exact hz) s.toks
  by_cases h0 : 0 ≤ k
  · have hk : k.toNat = j := by
      rw [seqIndex_of h0 h4] at h1
      exact Option.some.inj h1
    exact PySem.W.ki_setAt ho h0 (by omega) (by rw [List.size_toArray, ← hl]; exact h4) (by rw [hk]; exact ⟨_, I', q⟩)
  · have hk : (k + (its.toArray.size : Int)).toNat = j := by
      rw [seqIndex_neg (by omega) h3] at h1
      rw [List.size_toArray, ← hl]
      exact Option.some.inj h1
    exact PySem.W.ki_setBack ho (by omega) (by rw [List.size_toArray, ← hl]; exact h3) (by omega) (by rw [hk]; exact ⟨_, I', q⟩)
theorem slice_bounds (lo hi : Option Int) (n : Nat) : (sliceBounds lo hi none n).1 = ((HT.sIx n 0 lo : Nat) : Int) ∧ (sliceBounds lo hi none n).2.1 = ((HT.sIx n n hi : Nat) : Int) ∧ (sliceBounds lo hi none n).2.2 = 1 := by
  refine ⟨?_, ?_, rfl⟩
  · cases lo with
    | none => simp [sliceBounds, HT.sIx]
    | some i =>
      simp only [sliceBounds, HT.sIx, Option.getD_none, show (1 : Int) > 0 by decide, if_true]
      by_cases h : i < 0
      · simp only [h, if_true] <;> omega
      · simp only [h, if_false] <;> omega
  · cases hi with
    | none => simp [sliceBounds, HT.sIx]
    | some i =>
      simp only [sliceBounds, HT.sIx, Option.getD_none, show (1 : Int) > 0 by decide, if_true]
      by_cases h : i < 0
      · simp only [h, if_true] <;> omega
      · simp only [h, if_false] <;> omega
theorem slicePick_cut (its : List Value) (lo hi : Option Int) : slicePick its.toArray lo hi none = ((its.drop (HT.sIx its.length 0 lo)).take (HT.sIx its.length its.length hi - HT.sIx its.length 0 lo)).toArray := by
  obtain ⟨h1, h2, h3⟩ := slice_bounds lo hi its.toArray.size
  unfold slicePick
  rw [h1, h2, h3]
  simp only [sliceRange_one, pick_run, List.size_toArray] <;> rfl
def rSlL (K : PySem.W.Frag) : V → Option Int → Option Int → Hp → VK → Prop := fun x lo hi H Q => ∃ a xs, x = .ref a ∧ SqL K H a xs ∧ ∀ p, H p = none → Q (.ref p) (upd H p (.lst (cutV xs lo hi)))
theorem sl_list : SlR X (rSlL X.K) := by
  intro pins s σ H x v vl vu lo hi sl Q I rx hs pl pu h
  obtain ⟨a, xs, rfl, hx, q⟩ := h
  cases rx
  obtain ⟨its, r, ht, hz⟩ := I.list hx
  have hlen := r.length
  refine ⟨"list", _, slot_list_getitem.lookup, ht.isList.typeIs, ?_⟩
  refine wpAny_getItem_list_slice ht.isList hs pl pu .none (by simp) ?_ (by rw [List.size_toArray] <;> omega)
  rw [slicePick_cut, ← hlen]
  refine ⟨.ref s.heap.objs.size, _, I.laid (t' := s.toks) (o := .lst (cutV xs lo hi)) (fun b ob q => Heap.get?_push_of_some _ q) (Nat.le_refl _) ?_, rfl, q _ (I.hok.fresh (Nat.le_refl _))⟩
  exact ⟨Nat.le_trans (cutV_length xs lo hi) hz, _, 0, (r.drop (HT.sIx xs.length 0 lo)).take (HT.sIx xs.length xs.length hi - HT.sIx xs.length 0 lo), Heap.get?_push_size _ rfl⟩
def flatV : V → Bool
  | .non => true
  | .bl _ => true
  | .int _ => true
  | .str _ => true
  | _ => false
def eqV : V → V → Bool
  | .non, .non => true
  | .bl a, .bl b => a == b
  | .bl a, .int b => (if a then 1 else 0) == b
  | .int a, .bl b => a == (if b then 1 else 0)
  | .int a, .int b => a == b
  | .str a, .str b => a == b
  | _, _ => false
theorem eqAt_V {A : Around} {s : Shared} {y x : V} {u v : Value} (ry : RelV y u) (rx : RelV x v) (fy : flatV y = true) (fx : flatV x = true) : SeqAt.EqAt A s u v (eqV y x) := by
  cases y with
  | non =>
    cases ry
    cases x with
    | non => cases rx; exact SeqAt.EqAt.same _
    | bl b => cases rx; exact SeqAt.EqAt.none_bool b
    | int b => obtain ⟨t, rfl⟩ := rx; exact SeqAt.EqAt.none_int b t
    | str b => obtain ⟨t, rfl⟩ := rx; exact SeqAt.EqAt.none_str b t
    | _ => exact absurd (show false = true from fx) Bool.false_ne_true
  | bl a =>
    cases ry
    cases x with
    | non => cases rx; exact SeqAt.EqAt.bool_none a
    | bl b => cases rx; exact SeqAt.EqAt.bool_bool a b
    | int b => obtain ⟨t, rfl⟩ := rx; exact SeqAt.EqAt.bool_int a b t
    | str b => obtain ⟨t, rfl⟩ := rx; exact SeqAt.EqAt.bool_str a b t
    | _ => exact absurd (show false = true from fx) Bool.false_ne_true
  | int a =>
    obtain ⟨t', rfl⟩ := ry
    cases x with
    | non => cases rx; exact SeqAt.EqAt.int_none a t'
    | bl b => cases rx; exact SeqAt.EqAt.int_bool a t' b
    | int b => obtain ⟨t, rfl⟩ := rx; exact SeqAt.EqAt.int_int a t' b t
    | str b => obtain ⟨t, rfl⟩ := rx; exact SeqAt.EqAt.int_str a t' b t
    | _ => exact absurd (show false = true from fx) Bool.false_ne_true
  | str a =>
    obtain ⟨t', rfl⟩ := ry
    cases x with
    | non => cases rx; exact SeqAt.EqAt.str_none a t'
    | bl b => cases rx; exact SeqAt.EqAt.str_bool a t' b
    | int b => obtain ⟨t, rfl⟩ := rx; exact SeqAt.EqAt.str_int a t' b t
    | str b => obtain ⟨t, rfl⟩ := rx; exact SeqAt.EqAt.str_str a t' b t
    | _ => exact absurd (show false = true from fx) Bool.false_ne_true
  | _ => exact absurd (show false = true from fy) Bool.false_ne_true
def eqU (x : V) (u : Value) : Bool := match u with
  | .none => eqV .non x
  | .bool b => eqV (.bl b) x
  | .int i _ => eqV (.int i) x
  | .str z _ => eqV (.str z) x
  | _ => false
theorem eqU_of {x y : V} {u : Value} (r : RelV y u) (f : flatV y = true) : eqU x u = eqV y x := by
  cases y with
  | non => cases r; rfl
  | bl b => cases r; rfl
  | int i => obtain ⟨t, rfl⟩ := r; rfl
  | str z => obtain ⟨t, rfl⟩ := r; rfl
  | _ => exact absurd (show false = true from f) Bool.false_ne_true
theorem any_eqU {x : V} : ∀ {xs : List V} {us : List Value}, Vals xs us → xs.all flatV = true → us.any (eqU x) = xs.any fun y => eqV y x
  | _, _, .nil, _ => rfl
  | y :: xs, u :: us, .cons r t, f => by
    rw [List.all_cons, Bool.and_eq_true] at f
    rw [List.any_cons, List.any_cons, eqU_of r f.1, any_eqU t f.2]
theorem mem_eqAt {A : Around} {s : Shared} {x : V} {v : Value} (rx : RelV x v) (fx : flatV x = true) : ∀ {xs : List V} {us : List Value}, Vals xs us → xs.all flatV = true → ∀ u ∈ us, SeqAt.EqAt A s u v (eqU x u)
  | _, _, .nil, _ => fun u hu => by cases hu
  | y :: xs, u :: us, .cons r t, f => fun u' hu => by
    rw [List.all_cons, Bool.and_eq_true] at f
    rcases List.mem_cons.mp hu with rfl | hu
    · rw [eqU_of r f.1]; exact eqAt_V r rx f.1 fx
    · exact mem_eqAt rx fx t f.2 u' hu
def inV (x : V) (xs : List V) : Bool := xs.any fun y => eqV y x
def rIn (K : PySem.W.Frag) (neg : Bool) : R2 := fun x y H Q => ∃ p xs, y = .ref p ∧ (SqL K H p xs ∨ SqT K H p xs) ∧ flatV x = true ∧ xs.all flatV = true ∧ Q (.bl (if neg then !inV x xs else inV x xs)) H
theorem op_in_seq : OpR X (compareOp .In) (rIn X.K false) := by
  intro pins s σ H x y v u Q I rx ry h
  obtain ⟨p, xs, rfl, hq, fx, fs, q⟩ := h
  cases ry
  rcases hq with hq | hq
  · obtain ⟨its, r, pl, hz⟩ := I.list hq
    refine SeqAt.in_listAt (eqU x) pl.isList (fun w hw => mem_eqAt rx fx r fs w (by simpa using hw)) ⟨.bl _, H, I, rfl, ?_⟩
    rw [show its.toArray.any (eqU x) = its.any (eqU x) by simp, any_eqU r fs]
    exact q
  · obtain ⟨its, r, pl, hz⟩ := I.tuple hq
    refine SeqAt.in_tupleAt (eqU x) pl (fun w hw => mem_eqAt rx fx r fs w (by simpa using hw)) ⟨.bl _, H, I, rfl, ?_⟩
    rw [show its.toArray.any (eqU x) = its.any (eqU x) by simp, any_eqU r fs]
    exact q
theorem op_notIn_seq : OpR X (compareOp .NotIn) (rIn X.K true) := by
  intro pins s σ H x y v u Q I rx ry h
  obtain ⟨p, xs, rfl, hq, fx, fs, q⟩ := h
  cases ry
  rcases hq with hq | hq
  · obtain ⟨its, r, pl, hz⟩ := I.list hq
    refine SeqAt.notIn_listAt (eqU x) pl.isList (fun w hw => mem_eqAt rx fx r fs w (by simpa using hw)) ⟨.bl _, H, I, rfl, ?_⟩
    rw [show its.toArray.any (eqU x) = its.any (eqU x) by simp, any_eqU r fs]
    exact q
  · obtain ⟨its, r, pl, hz⟩ := I.tuple hq
    refine SeqAt.notIn_tupleAt (eqU x) pl (fun w hw => mem_eqAt rx fx r fs w (by simpa using hw)) ⟨.bl _, H, I, rfl, ?_⟩
    rw [show its.toArray.any (eqU x) = its.any (eqU x) by simp, any_eqU r fs]
    exact q
theorem op_notIn_str : OpR X (compareOp .NotIn) (fun x y H Q => ∃ i j, x = .str i ∧ y = .str j ∧ Q (.bl (!(!(Builtin.Str.occurrences j i 0 j.length 1).isEmpty))) H) := by
  intro pins s σ H x y v u Q I rx ry h
  obtain ⟨i, j, rfl, rfl, q⟩ := h
  obtain ⟨t, rfl⟩ := rx
  obtain ⟨t', rfl⟩ := ry
  exact notIn_str ⟨.bl _, H, I, rfl, q⟩
theorem CallR.or {f : Value} {r r' : List V → Hp → VK → Prop} (h : CallR X f r) (h' : CallR X f r') : CallR X f (fun xs H Q => r xs H Q ∨ r' xs H Q) := by
  intro pins s σ H xs us Q I rs q
  rcases q with q | q
  · exact h pins s σ H xs us Q I rs q
  · exact h' pins s σ H xs us Q I rs q
theorem call_list_of : CallR X (.type "list") (fun xs H Q => ∃ p ys, xs = [.ref p] ∧ (SqL X.K H p ys ∨ SqT X.K H p ys) ∧ ∀ l, H l = none → Q (.ref l) (upd H l (.lst ys))) := by
  intro pins s σ H xs us Q I r h
  obtain ⟨p, ys, rfl, hq, q⟩ := h
  obtain ⟨u, rfl, rx⟩ := vals1 r
  cases rx
  have fin : ∀ (its : List Value), Vals ys its → ys.length ≤ sizeLine → ∀ (h' : Heap) (c' : Nat), (∀ b o', s.heap.get? b = some o' → h'.get? b = some o') →
      h'.get? s.heap.objs.size = some { cls := .type "list", dict := none, data := .seq its.toArray c', slots := #[] } → EP X pins σ Q (.ref s.heap.objs.size) { s with heap := h' } := fun its r' hz h' c' kp e =>
    ⟨.ref s.heap.objs.size, _, I.laid (t' := s.toks) kp (Nat.le_refl _) (show ObjOk X.prog X.w _ h' _ (.lst ys) from ⟨hz, its, c', r', e⟩), rfl, q _ (I.hok.fresh (Nat.le_refl _))⟩
  rcases hq with hq | hq
  · obtain ⟨its, r', pl, hz⟩ := I.list hq
    have hlen := r'.length
    obtain ⟨o, ho, hc, n, hd⟩ := pl.isList
    exact call_list_seq p (.inl rfl) ho hc hd (fun h' c' kp e => fin its r' hz h' c' kp e) (by simp only [List.size_toArray] <;> omega)
  · obtain ⟨its, r', pl, hz⟩ := I.tuple hq
    have hlen := r'.length
    obtain ⟨o, ho, hc, n, hd⟩ := pl
    exact call_list_seq p (.inr rfl) ho hc hd (fun h' c' kp e => fin its r' hz h' c' kp e) (by simp only [List.size_toArray] <;> omega)
theorem call_tuple_of : CallR X (.type "tuple") (fun xs H Q => ∃ p ys, xs = [.ref p] ∧ ((SqL X.K H p ys ∧ ∀ l, H l = none → Q (.ref l) (upd H l (.tup ys))) ∨ (SqT X.K H p ys ∧ Q (.ref p) H))) := by
  intro pins s σ H xs us Q I r h
  obtain ⟨p, ys, rfl, h⟩ := h
  obtain ⟨u, rfl, rx⟩ := vals1 r
  cases rx
  rcases h with ⟨hq, q⟩ | ⟨hq, q⟩
  · obtain ⟨its, r', pl, hz⟩ := I.list hq
    have hlen := r'.length
    refine call_tuple_list pl.isList (fun h' kp => ?_) (by simp only [List.size_toArray] <;> omega)
    have I1 : Inv X pins σ H { s with heap := h' } := I.kept (t' := s.toks) kp
    have I2 : Inv X pins σ (upd H h'.objs.size (.tup ys)) { s with heap := h'.push { cls := .type "tuple", data := .seq its.toArray } } :=
      I1.laid (t' := s.toks) (fun b o e => Heap.get?_push_of_some _ e) (Nat.le_refl _) (show ObjOk X.prog X.w _ _ _ (.tup ys) from ⟨hz, its, r', IsTup.new _ _⟩)
    exact ⟨.ref h'.objs.size, _, I2, rfl, q _ (I1.hok.fresh (Nat.le_refl _))⟩
  · obtain ⟨its, r', pl, hz⟩ := I.tuple hq
    exact call_tuple_same pl ⟨.ref p, H, I, rfl, q⟩
def tyV (K : PySem.W.Frag) (T : String) (x : V) (H : Hp) : Prop := match x with
  | .str _ => T = "str"
  | .int _ => T = "int"
  | .ref p => (T = "list" ∧ ∃ xs, SqL K H p xs) ∨ (T = "tuple" ∧ ∃ o, K.lookup p = some o ∧ o.cls = .type "tuple" ∧ o.dict = none) ∨
      (T = "dict" ∧ ((∃ kvs, H p = some (.dK kvs)) ∨ ∃ kvs, H p = some (.dT kvs))) ∨ (T = "set" ∧ ∃ S n, H p = some (.set S n))
  | _ => False
theorem tyV_is {pins : List (Addr × Obj)} {σ : St} {H : Hp} {s : Shared} {T : String} {x : V} {v : Value} (I : Inv X pins σ H s) (r : RelV x v) (ty : tyV X.K T x H) :
    s.TypeIs v T ∧ ∀ a, v = .ref a → ∃ ob, s.heap.get? a = some ob ∧ ob.dict = none := by
  cases x with
  | str z =>
    obtain ⟨t, rfl⟩ := r
    cases (show T = "str" from ty)
    exact ⟨typeIs_str s z t, fun _ e => nomatch e⟩
  | int i =>
    obtain ⟨t, rfl⟩ := r
    cases (show T = "int" from ty)
    exact ⟨typeIs_int s i t, fun _ e => nomatch e⟩
  | ref p =>
    cases r
    rcases ty with ⟨rfl, xs, hq⟩ | ⟨rfl, o, hk, hc, hd⟩ | ⟨rfl, hk⟩ | ⟨rfl, S, n, hk⟩
    · obtain ⟨its, _, pl, _⟩ := I.list hq
      refine ⟨pl.isList.typeIs, fun a e => ?_⟩
      cases e
      obtain ⟨o, n, e, c, hd, _⟩ := pl
      exact ⟨o, e, hd⟩
    · refine ⟨⟨o, I.kIn p o hk, hc⟩, fun a e => ?_⟩
      cases e
      exact ⟨o, I.kIn _ o hk, hd⟩
    · have z : ∃ o, s.heap.get? p = some o ∧ o.ExactDict := by
        rcases hk with ⟨kvs, hk⟩ | ⟨kvs, hk⟩
        · obtain ⟨_, _, _, _, o, _, _, e, ex, _⟩ := I.hok p _ hk
          exact ⟨o, e, ex⟩
        · obtain ⟨_, _, _, _, o, _, _, e, ex, _⟩ := I.hok p _ hk
          exact ⟨o, e, ex⟩
      obtain ⟨o, e, ex⟩ := z
      refine ⟨⟨o, e, ex.1⟩, fun a e2 => ?_⟩
      cases e2
      exact ⟨o, e, ex.2.1⟩
    · obtain ⟨o, _, _, _, e, ex, _⟩ := I.hok p _ hk
      refine ⟨⟨o, e, ex.1⟩, fun a e2 => ?_⟩
      cases e2
      exact ⟨o, e, ex.2.1⟩
  | _ => exact False.elim ty
def tBM (K : PySem.W.Frag) (T : String) (r : V → List V → Hp → VK → Prop) (to : TE) (t : TA) : TE := fun σ H Q => to σ H fun x H1 => tyV K T x H1 ∧ t σ H1 fun xs H2 => r x xs H2 Q
variable {o e : Expr} {es : List Expr} {to : TE} {t : TA} {name : Str} {apos cpos : Pos} {T id : String} {r : V → List V → Hp → VK → Prop}
theorem pe_bm (pa : PlainAttrs T) (slot : Slot T name id) (hty : typeOf (.builtin id) = pure (.type "method_descriptor")) (hm : MtR X id r) (ho : PE X o to) (ha : PA X (e :: es) t)
    (hbase : attributeBase o name X.env (eval o X.env) = eval o X.env := by rfl)
    (hfew : ((backTo cpos (starEach (e :: es) X.env)).all (fun x => !x.1) && (backToKw cpos (keywordEach [] X.env)).all (fun x => x.1.isSome)
      && decide ((e :: es).length + ([] : List Keyword).length + (if ([] : List Keyword).isEmpty then 0 else 1) < 30)) = true := by rfl)
    (hline : (apos.endLine == cpos.line) = true := by rfl) (hs : starEach (e :: es) X.env = (false, eval e X.env) :: starEach es X.env := by rfl) (hplain : (backTo cpos (starEach es X.env)).any (·.1) = false := by rfl) :
    PE X (.Call (.Attribute o name apos) (e :: es) [] cpos) (tBM X.K T r to t) := by
  intro pins s σ H Q I h
  refine wpAny_Call_method_late hbase hfew hline rfl (thn (ho pins s σ H _ I h) fun v s1 ⟨x, H1, I1, r1, ty, q1⟩ => ?_)
  obtain ⟨h1, h2⟩ := tyV_is I1 r1 ty
  refine ⟨T, id, pa, slot, hty, h1, h2, ?_⟩
  have hA := ha cpos pins s1 σ H1 _ I1 q1
  rw [hs] at hA ⊢
  refine Calls.callWith_builtin (by show (false || (backTo cpos (starEach es X.env)).any (·.1)) = false; rw [hplain] <;> rfl) (Calls.evalArgs_plain ?_)
  exact thn hA fun us s2 ⟨vs, H2, I2, r2, q2⟩ => hm pins s2 σ H2 x vs v us Q I2 r1 r2 q2
end
end L2
namespace L2
open PySem PySem.Spec PyProof.Rows
def MtM (X : Cx) (id : String) (r : V → List V → Hp → VK → Prop) : Prop :=
  ∀ (pins : List (Addr × Obj)) (s : Shared) (σ : St) (H : Hp) (x : V) (xs : List V) (v : Value) (us : List Value) (Q : VK), Inv X pins σ H s → RelV x v → Vals xs us → r x xs H Q →
    wpAny (model X.prog X.w) X.A (call (.builtin id) (v :: us)) (EP X pins σ Q) X.xe s
theorem Vals.one : ∀ {x : V} {us : List Value}, Vals [x] us → ∃ u, us = [u] ∧ RelV x u
  | _, _, .cons r .nil => ⟨_, rfl, r⟩
theorem Vals.two : ∀ {x y : V} {us : List Value}, Vals [x, y] us → ∃ u v, us = [u, v] ∧ RelV x u ∧ RelV y v
  | _, _, _, .cons r (.cons q .nil) => ⟨_, _, rfl, r, q⟩
theorem Vals.zero : ∀ {us : List Value}, Vals [] us → us = []
  | _, .nil => rfl
theorem Vals.reverse {xs : List V} {us : List Value} (h : Vals xs us) : Vals xs.reverse us.reverse := by
  induction h with
  | nil => exact .nil
  | cons r t ih => rw [List.reverse_cons, List.reverse_cons]; exact Vals.append ih (.cons r .nil)
theorem Vals.rep {xs : List V} {us : List Value} (h : Vals xs us) : ∀ k : Nat, Vals (List.replicate k xs).flatten (List.replicate k us).flatten
  | 0 => .nil
  | k + 1 => by
    rw [List.replicate_succ, List.replicate_succ, List.flatten_cons, List.flatten_cons]
    exact Vals.append h (Vals.rep h k)
theorem foldl_rep (its : List Value) : ∀ (k : Nat) (acc : List Value),
    List.foldl (fun x1 x2 => x1 ++ x2) acc.toArray (List.replicate k its.toArray) = (acc ++ (List.replicate k its).flatten).toArray
  | 0, acc => by simp
  | k + 1, acc => by
    have e : acc.toArray ++ its.toArray = (acc ++ its).toArray := by simp
    have e2 : (acc ++ its) ++ (List.replicate k its).flatten = acc ++ (List.replicate (k + 1) its).flatten := by
      rw [List.replicate_succ, List.flatten_cons, List.append_assoc]
    rw [← e2, ← foldl_rep its k (acc ++ its), ← e, List.replicate_succ, List.foldl_cons]
section
variable {X : Cx} {pins : List (Addr × Obj)} {σ : St} {H : Hp} {s : Shared} {l b : Addr} {xs ys zs : List V}
theorem Inv.lset {its its' : List Value} {n : Nat} {f : Array Value → Array Value} {t' : Nat} (I : Inv X pins σ H s) (hH : H l = some (.lst xs))
    (e : s.heap.get? l = some { cls := .type "list", data := .seq its.toArray n }) (hf : f its.toArray = its'.toArray) (hv : Vals ys its') (hz : ys.length ≤ sizeLine) :
    Inv X pins σ (upd H l (.lst ys)) { s with heap := s.heap.update l (Obj.mapSeq f), toks := t' } := by
  have q := PySem.IsL.update e f
  rw [hf] at q
  refine I.write (x := l) (e := l) (by rw [hH]; exact trivial) (.inl rfl) (fun b' u hb hu => (Heap.get?_update_other s.heap (Obj.mapSeq f) (Ne.symm hb)).trans hu) ⟨_, q⟩ ?_
  exact ⟨hz, its', _, hv, q⟩
theorem Inv.lnew {its : List Value} {t' : Nat} (I : Inv X pins σ H s) (hv : Vals ys its) (hz : ys.length ≤ sizeLine) :
    Inv X pins σ (upd H s.heap.objs.size (.lst ys)) { s with heap := s.heap.push { cls := .type "list", data := .seq its.toArray }, toks := t' } :=
  I.laid (fun _ _ q => Heap.get?_push_of_some _ q) (Nat.le_refl _) ⟨hz, its, 0, hv, Heap.get?_push_size _ rfl⟩
theorem Inv.fresh (I : Inv X pins σ H s) : H s.heap.objs.size = none := I.hok.fresh (Nat.le_refl _)
theorem Inv.lstM (I : Inv X pins σ H s) (hH : H l = some (.lst xs)) : xs.length ≤ sizeLine ∧ ∃ (its : List Value) (n : Nat), Vals xs its ∧ xs.length = its.length ∧ s.heap.get? l = some { cls := .type "list", data := .seq its.toArray n } := by
  obtain ⟨z, its, n, r, e⟩ := I.hok l _ hH
  exact ⟨z, its, n, r, r.length, e⟩
theorem notLongL {n : Nat} (h : n ≤ sizeLine) : Builtin.List.listTooLong n = false := by
  unfold Builtin.List.listTooLong
  exact decide_eq_false (by omega)
end
section
variable {X : Cx}
def rAppend : V → List V → Hp → VK → Prop := fun x vs H Q => ∃ l xs y, x = .ref l ∧ vs = [y] ∧ H l = some (.lst xs) ∧ xs.length < sizeLine ∧ Q .non (upd H l (.lst (xs ++ [y])))
theorem mt_append : MtM X "list.append" rAppend := by
  intro pins s σ H x vs v us Q I rx rv h
  obtain ⟨l, xs, y, rfl, rfl, hH, hz, q⟩ := h
  cases rx
  obtain ⟨u, rfl, ru⟩ := rv.one
  obtain ⟨z, its, n, r, hl, e⟩ := I.lstM hH
  refine call_meets F.slot_list_append ⟨_, e, rfl⟩ F.entry_list_append (F.args_list_append_2 _ _) (PySem.list_append l its.toArray n u (by rw [List.size_toArray]; omega)) ⟨e, ?_⟩
  refine ⟨.non, _, I.lset (its' := its ++ [u]) hH e (by simp) (r.append (.cons ru .nil)) ?_, rfl, q⟩
  rw [List.length_append, List.length_singleton]
  omega
def rCat : R2 := fun x y H Q => ∃ l b xs zs, x = .ref l ∧ y = .ref b ∧ H l = some (.lst xs) ∧ H b = some (.lst zs) ∧ xs.length + zs.length ≤ sizeLine ∧ ∀ p, H p = none → Q (.ref p) (upd H p (.lst (xs ++ zs)))
theorem op_cat : OpR X (binaryOp .Add) rCat := by
  intro pins s σ H x y v u Q I rx ry h
  obtain ⟨l, b, xs, zs, rfl, rfl, hH, hB, hz, q⟩ := h
  cases rx
  cases ry
  obtain ⟨z, its, n, r, hl, e⟩ := I.lstM hH
  obtain ⟨z2, its2, n2, r2, hl2, e2⟩ := I.lstM hB
  refine PySem.P.add_list e e2 ?_ (by rw [List.size_toArray, List.size_toArray]; omega)
  have ea : its.toArray ++ its2.toArray = (its ++ its2).toArray := by simp
  rw [ea]
  exact ⟨.ref _, _, I.lnew (t' := s.toks) (r.append r2) (by rw [List.length_append]; omega), rfl, q _ I.fresh⟩
def rRep : R2 := fun x y H Q => ∃ l k xs, x = .ref l ∧ y = .int k ∧ H l = some (.lst xs) ∧ -(2 ^ 63) ≤ k ∧ k < 2 ^ 63 ∧ xs.length * k.toNat ≤ sizeLine ∧
  ∀ p, H p = none → Q (.ref p) (upd H p (.lst (List.replicate k.toNat xs).flatten))
theorem len_rep {α : Type} (xs : List α) (k : Nat) : (List.replicate k xs).flatten.length = k * xs.length := by
  induction k with
  | zero => simp
  | succ k ih => rw [List.replicate_succ, List.flatten_cons, List.length_append, ih, Nat.succ_mul, Nat.add_comm]
theorem op_rep : OpR X (binaryOp .Mult) rRep := by
  intro pins s σ H x y v u Q I rx ry h
  obtain ⟨l, k, xs, rfl, rfl, hH, h1, h2, hz, q⟩ := h
  cases rx
  obtain ⟨t, rfl⟩ := ry
  obtain ⟨z, its, n, r, hl, e⟩ := I.lstM hH
  have hlen : its.toArray.size * k.toNat ≤ sizeLine := by rw [List.size_toArray, ← hl]; exact hz
  have hcap : ¬ its.toArray.size * k.toNat > (2 ^ 63 - 1) / 8 := by
    have : (sizeLine : Nat) ≤ (2 ^ 63 - 1) / 8 := by decide
    omega
  have hfit : ¬ (!Builtin.List.listFitsIndex k) = true := by
    rw [fitsIndex_both h1 h2]
    exact Bool.false_ne_true
  have hlong : ¬ Builtin.List.listTooLong (its.toArray.size * k.toNat) = true := by
    rw [notLongL hlen]
    exact Bool.false_ne_true
  have hnew : List.foldl (fun x1 x2 => x1 ++ x2) #[] (List.replicate (if its.toArray.isEmpty = true then 0 else k.toNat) its.toArray) = (List.replicate k.toNat its).flatten.toArray := by
    have f0 : ∀ m : Nat, List.foldl (fun x1 x2 => x1 ++ x2) #[] (List.replicate m its.toArray) = (List.replicate m its).flatten.toArray := fun m => by
      have := foldl_rep its m []
      rw [List.nil_append] at this
      exact this
    rw [f0]
    cases its with
    | nil => simp
    | cons a r' => rw [if_neg (by simp)]
  refine wpAny_binaryOp_repeat_ref (T := "list") (U := "int") (by decide) ⟨_, e, rfl⟩ (fun s' => typeIs_int s' k t) noFill_list_mul F.fills_int_mul F.slot_int_rmul repeat_list F.slot_int_index.lookup
    (call_meets F.slot_int_rmul (typeIs_int s k t) F.entry_int_rmul (F.args_int_rmul_2 _ _) (int___rmul___int_list k t l its.toArray n)
      ⟨e, rfl, ⟨_, e, rfl⟩, call_meets F.slot_list_mul ⟨_, e, rfl⟩ F.entry_list_mul (F.args_list_mul_2 _ _) (AutoListH.list___mul___list_int_3 l its.toArray n k t hfit hcap hlong) ⟨e, ?_⟩⟩)
  rw [hnew]
  exact ⟨.ref _, _, I.lnew (t' := s.toks) (r.rep k.toNat) (by rw [len_rep, Nat.mul_comm]; exact hz), rfl, q _ I.fresh⟩
end
section
variable {prog : Program} {w : World} {A : Around} {E : Value → Shared → Prop} {s : Shared}
end
section
variable {X : Cx}
end
end L2
namespace Att
open PySem PySem.W PySem.Calls PyProof.Rows
theorem ints_of_wellAll {P : Params} {h : Heap} : ∀ (ns : List Int) (vs : List Value), WellAll P h vs (ns.map WData.int) → IntsAre vs ns := by
  intro ns
  induction ns with
  | nil =>
    intro vs w
    rw [List.map_nil] at w
    cases w
    exact .nil
  | cons n ns ih =>
    intro vs w
    rw [List.map_cons] at w
    cases w with
    | cons a b =>
      cases a
      exact .cons _ _ (ih _ b)
theorem script_of {l : OpenLaw} {n : Nat} (hn : l.most = some n) {P : Params} {h : Heap} {args : List WData} {vals : List Value}
    (hpre : l.row.toRowW.claim.pre args = true) (hwl : WellAll P h vals args) :
    ∃ a vs ns, vals = [Value.ref a] ∧ args = [WData.list (ns.map WData.int)] ∧ h.get? a = some { cls := .type "list", data := .seq vs.toArray } ∧ IntsAre vs ns ∧ ns.length ≤ n := by
  have hsh : WShape.hasAll [] args [.list .int] = true := (pre_splitW hpre).1
  have hc : l.pre.holds [] { args := args } = true := (pre_splitW hpre).2
  obtain ⟨d, r, rfl, h1, h2⟩ := hasAllW_cons hsh
  obtain rfl := hasAllW_nil h2
  obtain ⟨xs, rfl, h3⟩ := hasW_list h1
  obtain ⟨ns, rfl⟩ := items_int h3
  have hlen : ns.length ≤ n := by
    unfold OpenLaw.pre at hc
    have h4 : (WTm.not (.lt (.lit (.int (n : Int))) (.len (.arg 0)))).holds [] { args := [.list (ns.map .int)] } = true := by
      have h4 := (holds_andW hc).1
      rw [hn] at h4
      exact h4
    have h5 := condW_of h4 (w_not (w_lt w_lit (w_len_list (w_arg rfl))))
    rw [List.length_map] at h5
    refine Nat.le_of_not_lt fun q => ?_
    have q' : (n : Int) < ((ns.length : Nat) : Int) := by omega
    first
      | (rw [decide_eq_true q'] at h5; exact absurd h5 (by decide))
      | (simp at h5; omega)
  cases hwl with
  | cons w1 w2 =>
    cases w2
    cases w1 with
    | list ho hall => exact ⟨_, _, ns, rfl, rfl, ho, ints_of_wellAll ns _ hall, hlen⟩
theorem post_true (l : OpenLaw) (args : List WData) : l.row.toRowW.claim.post args (.bool true) args = true :=
  postW_of (r := l.row.toRowW) (X := (true == true))
    (show WShape.has [] (.bool true) .bool = true by first | rfl | decide | simp [WShape.has, WShape.arms, WShape.armsAll])
    (show (WTm.eq .res (.lit (.bool true))).value [] { args := args, res := some (.bool true), after := args } = some (.bool (true == true)) from w_eq_bool (w_res rfl) w_lit) rfl
theorem attach_call {l : OpenLaw} {n : Nat} {q : Program} {loose : List Str} {XP : (Str → Option Value) → Heap → Prop} {YP : World → Heap → Prop} {d : DefRec}
    (hn : l.most = some n) (hdf : d.params.defaults = [])
    (call : ∀ (w : World) (s₀ s₁ : Shared) (mg mb : Str → Option Value) (fa : Addr) (o : Obj) (pm cd doc : Value) (a : Addr) (vs : List Value) (ns : List Int),
      Ground q loose [] XP w s₀ mg mb s₁.heap → YP w s₁.heap →
      s₁.heap.get? fa = some o → o.data = .func (docDef d.name d.params d.body d.scope pm cd doc) → s₁.heap.CodeRec cd d.name → mg d.name = some (.ref fa) →
      s₁.heap.get? a = some { cls := .type "list", data := .seq vs.toArray } → IntsAre vs ns → ns.length ≤ n → s₁.gens = #[] →
      codeAny (model l.prog w) callerA (.call (.ref fa) ⟨[.ref a], []⟩) (fun r s' => r = .ok (.ret (.bool true)) ∧ OldK s₁.heap s'.heap ∧ s'.os = s₁.os ∧ AllBare s'.gens) s₁) :
    WalkO q loose XP YP l.row.toRowW d [] (fun f vs => PySem.call f vs) := by
  intro w s₀ s₁ mg mb G Y fa o pm cd doc dV kV ho hd hcd hD hmg hg args vals as hpre hlay hrd hwl hlo
  obtain rfl : dV = .none := Dflts.none hD hdf
  obtain rfl : kV = .none := Dflts.noKw hD
  obtain ⟨a, vs, ns, rfl, rfl, hobj, hints, hlen⟩ := script_of hn hpre hwl
  refine enter_call (codeAny_mono (call w s₀ s₁ mg mb fa o pm cd doc a vs ns G Y ho (fd_plain hd) hcd hmg hobj hints hlen hg) fun r s' hq => ?_)
  obtain ⟨rfl, h2, h3, h4⟩ := hq
  exact ⟨.inl ⟨.bool true, .bool true, [], rfl, fun _ => rfl, .bool true, post_true l _, fun _ => ⟨List.Pairwise.nil, fun _ hm => (nomatch hm)⟩⟩, h2, h3, h4⟩
section
variable {prog : Program} {w : World} {A : Around} {E : Value → Shared → Prop} {s : Shared} {K : Frag}
def ledger (h : Heap) (L d : Addr) : List (Addr × Obj) := (List.range h.objs.size).filterMap fun a => if a = L ∨ a = d then none else (h.get? a).map fun o => (a, o)
end
end Att
namespace L2
open PySem PySem.Spec PyProof.Rows
theorem vals_ints : ∀ {vs : List Value} {ns : List Int}, IntsAre vs ns → Vals (ns.map V.int) vs
  | _, _, .nil => .nil
  | _, _, .cons n t h => .cons ⟨t, rfl⟩ (vals_ints h)
def Only (H : Hp) : Prop := ∀ b, H b = none ∨ ∃ o xs, H b = some (.frz o (.lst xs))
theorem law_call {P : Program} {w : World} {K : PySem.W.Frag} {mg mb : Str → Option Value} {CX : CXT} {k : Nat} {fa a : Addr} {fd : FuncData} {x : Str} {sp : Sp} {s₁ : Shared} {vs : List Value} {ns : List Int}
    (KX : K.In s₁.heap) (hns : s₁.heap.Ns mainGlobals mg) (hb : s₁.heap.Ns builtinsNs mb) (hbb : ∀ x : Str, x ≠ "__name__" → mb x = bootBuiltins x) (hlim : s₁.heap.NoLimit) (hg : s₁.gens = #[])
    (ha : s₁.heap.get? a = some { cls := .type "list", data := .seq vs.toArray }) (hi : IntsAre vs ns) (hl : ns.length ≤ sizeLine) (hr : Room k callerA)
    (F : ∀ base : Heap, K.In base → base.Ns mainGlobals mg → FnOk P w K mg base CX k fa fd [x] sp) (hbind : ∀ (s : Shared) (u : Value), BindsTo s fd ⟨[u], []⟩ [(x, u)])
    (hsp : ∀ H : Hp, Only H → SqL K H a (ns.map V.int) → sp [.ref a] H (fun v _ => v = .bl true) fun _ _ _ => False)
    (hCX : ∀ H e s', CX [] H s₁ (fun _ _ _ => False) e s' → False) :
    codeAny (model P w) callerA (.call (.ref fa) ⟨[.ref a], []⟩) (fun r s' => r = .ok (.ret (.bool true)) ∧ OldK s₁.heap s'.heap ∧ s'.os = s₁.os ∧ AllBare s'.gens) s₁ := by
  have rv := vals_ints hi
  have lenV := hi.length
  have core : ∀ H : Hp, Only H → SqL K H a (ns.map V.int) → HOk P w H s₁.heap → (∀ b, H b ≠ none → b = a) → (H a ≠ none → K.lookup a = none) →
      codeAny (model P w) callerA (.call (.ref fa) ⟨[.ref a], []⟩) (fun r s' => r = .ok (.ret (.bool true)) ∧ OldK s₁.heap s'.heap ∧ s'.os = s₁.os ∧ AllBare s'.gens) s₁ := by
    intro H hO hS hok hA hK
    have base_of : ∀ {b : Addr} {o : Obj}, s₁.heap.get? b = some o → H b = none → (hidT s₁.heap H).get? b = some o := fun e n => hidT_get e n
    have noA : ∀ {b : Addr} {o : Obj} {es : Array DictEntry} {ep : Nat}, s₁.heap.get? b = some o → o.data = .dict es ep → H b = none := fun {b o es ep} e d => by
      cases q : H b with
      | none => rfl
      | some u =>
        have e' : b = a := hA b (by rw [q]; simp)
        subst e'
        rw [ha] at e; cases e
        have d' : Data.seq vs.toArray _ = Data.dict es ep := d
        cases d'
    have nsK : ∀ {b : Addr} {m : Str → Option Value}, s₁.heap.Ns b m → (hidT s₁.heap H).Ns b m := fun {b m} ⟨o, es, ep, e, d, r⟩ => ⟨o, es, ep, base_of e (noA e d), d, r⟩
    have hKb : K.In (hidT s₁.heap H) := fun b o e => base_of (KX b o e) (by
      cases q : H b with
      | none => rfl
      | some u =>
        have e' : b = a := hA b (by rw [q]; simp)
        subst e'
        rw [hK (by rw [q]; simp)] at e; cases e)
    have hM : Mod K mg (hidT s₁.heap H) := ⟨hKb, nsK hns, ⟨mb, nsK hb, hbb⟩, let ⟨mc, h1, h2⟩ := hlim; ⟨mc, nsK h1, h2⟩⟩
    have e0 : Env0 P w K mg (hidT s₁.heap H) callerA [] s₁ H := ⟨rfl, hM, fun b o e => of_hidT e, Nat.le_of_eq (hidT_size _ _), trivial, fun b hb => absurd (show b ∈ ([] : List Addr) from hb) (by simp), hok, .of_eq hg⟩
    refine codeAny_mono ((F _ hKb (nsK hns)).run callerA [] s₁ H ⟨[.ref a], []⟩ [.ref a] [.ref a] _ _ hr e0 (hbind s₁ (.ref a)) (.cons rfl .nil) (hsp H hO hS)) fun r s' h => ?_
    cases r with
    | error e => exact (hCX H e s' h).elim
    | ok fl =>
      cases fl with
      | next => exact False.elim h
      | brk => exact False.elim h
      | cont => exact False.elim h
      | ret u =>
        obtain ⟨v, H', os, bare, un, hok', r', q⟩ := h
        have q' : v = .bl true := q
        subst q'
        obtain rfl : u = Value.bool true := r'
        refine ⟨rfl, OldK.of_keep fun b o e => ?_, os, bare⟩
        cases q : H b with
        | none => exact un.keep b o e q (by intro z; exact absurd (show b ∈ ([] : List Addr) from z) (by simp)) (by simp)
        | some u =>
          rcases hO b with z | ⟨ob, xs, z⟩
          · rw [q] at z; cases z
          · have z2 := un.frzs b ob _ z
            obtain ⟨e1, _⟩ := hok b _ z
            obtain ⟨e2, _⟩ := hok' b _ z2
            rw [e] at e1; cases e1
            exact e2
  cases hk : K.lookup a with
  | some o =>
    have e := KX a o hk
    rw [ha] at e
    cases e
    refine core (fun _ => none) (fun _ => .inl rfl) (.inr ⟨_, vs.toArray, _, hk, rfl, rfl, rfl, by rw [List.size_toArray, lenV]; exact hl, by simpa using rv⟩) (fun b u z => by have z' : (none : Option HO) = some u := z; cases z') (fun b z => absurd rfl z) fun z => absurd rfl z
  | none =>
    refine core (fun b => if b = a then some (.frz { cls := .type "list", data := .seq vs.toArray } (.lst (ns.map V.int))) else none) (fun b => ?_) (.inl (.inr ⟨{ cls := .type "list", data := .seq vs.toArray }, if_pos rfl⟩)) (fun b u z => ?_) (fun b z => ?_) fun _ => hk
    · by_cases hb : b = a
      · exact .inr ⟨_, _, if_pos hb⟩
      · exact .inl (if_neg hb)
    · by_cases hb : b = a
      · have z' := (if_pos hb).symm.trans z
        cases z'
        subst hb
        exact ⟨ha, by rw [List.length_map]; exact hl, vs, _, rv, ha⟩
      · have z' := (if_neg hb).symm.trans z
        cases z'
    · by_cases hb : b = a
      · exact hb
      · exact absurd (if_neg hb) z
end L2
namespace L2
open PySem PySem.Spec PyProof.Rows
abbrev KOf {K : PySem.W.Frag} {h : Heap} (_ : K.In h) : PySem.W.Frag := K
theorem walk_of {l : PySem.W.OpenLaw} {n k : Nat} {q : Program} {loose : List Str} {XP : (Str → Option Value) → Heap → Prop} {YP : World → Heap → Prop} {d : DefRec} {K : Params → PySem.W.Frag} {CX : World → CXT} {sp : World → Sp} {x : Str}
    (hn : l.most = some n) (hn2 : n ≤ sizeLine) (hdf : d.params.defaults = []) (hr : Room k callerA)
    (hY : ∀ (w : World) (h : Heap), YP w h → (K w.params).In h)
    (F : ∀ (w : World) (mg : Str → Option Value) (fa : Addr) (h : Heap), (K w.params).In h → h.Ns mainGlobals mg → mg d.name = some (.ref fa) →
      ∃ fd : FuncData, (∀ (s : Shared) (u : Value), BindsTo s fd ⟨[u], []⟩ [(x, u)]) ∧
        ∀ base : Heap, (K w.params).In base → base.Ns mainGlobals mg → FnOk l.prog w (K w.params) mg base (CX w) k fa fd [x] (sp w))
    (hsp : ∀ (w : World) (H : Hp) (a : Addr) (ns : List Int), ns.length ≤ n → Only H → SqL (K w.params) H a (ns.map V.int) → sp w [.ref a] H (fun v _ => v = .bl true) fun _ _ _ => False)
    (hCX : ∀ (w : World) (H : Hp) (s : Shared) (e : Value) (s' : Shared), CX w [] H s (fun _ _ _ => False) e s' → False) :
    PySem.W.WalkO q loose XP YP l.row.toRowW d [] (fun f vs => PySem.call f vs) := by
  refine Att.attach_call hn hdf fun w s₀ s₁ mg mb fa o pm cd doc a vs ns G Y ho hd hcd hmg hobj hints hlen hg => ?_
  have KX := hY w _ Y
  obtain ⟨fd, hb, hF⟩ := F w mg fa _ KX G.T.g hmg
  exact law_call KX G.T.g G.T.b G.T.builtins G.T.nolimit hg hobj hints (Nat.le_trans hlen hn2) hr hF hb (fun H hO hS => hsp w H a ns hlen hO hS) fun H e s' => hCX w H s₁ e s'
end L2
namespace L2
open PySem PySem.Spec PyProof.Rows
def defArgs (s : Stmt) : Arguments := match s with
  | .FunctionDef _ a _ _ _ _ _ _ _ _ => a
  | _ => { posonlyargs := [], args := [], vararg := none, kwonlyargs := [], kw_defaults := [], kwarg := none, defaults := [] }
def defBody (s : Stmt) : List Stmt := match s with
  | .FunctionDef _ _ b _ _ _ _ _ _ _ => b
  | _ => []
def defScope (s : Stmt) : Scope := match s with
  | .FunctionDef _ _ _ _ _ _ sc _ _ _ => sc
  | _ => { kind := .function, names := [], isGenerator := false, isCoroutine := false }
abbrev CX0 : CXT := fun _ _ _ _ _ _ => False
abbrev E0 : XK := fun _ _ _ => False
theorem pass0 {X : Cx} : Passes CX0 X E0 := fun _ _ _ _ _ _ _ h => h.elim
structure Fun (K : PySem.W.Frag) (x qual : Str) (st : Stmt) (f : Addr) (fd : FuncData) : Prop where
  ex : ∃ (oc : Value) (od : Option Addr) (kV doc pm : Value) (an : Option Addr) (cdv ct : Value) (osl : Array (Option Value)),
    fd = PySem.W.fnOf x qual (defArgs st) (defBody st) (defScope st) .none kV doc pm an cdv ct ∧ K.lookup f = some ⟨oc, od, .func fd, osl⟩ ∧ PySem.W.codeIn K cdv qual = true
  kp : PySem.W.keepIn K (.ref f) = true
section
variable {P : Program} {w : World} {K : PySem.W.Frag} {mg : Str → Option Value} {base : Heap}
theorem Fun.ok {x qual : Str} {st : Stmt} {f : Addr} {fd : FuncData} {N ps : List Str} {k : Nat} {sp : Sp} (F : Fun K x qual st f fd) (S : FnScope N ps (defScope st)) (len : ∀ vs H Q E, sp vs H Q E → vs.length = ps.length)
    (hbody : ∀ (cdv : Value) (A : Around) (outer : List Env) (s : Shared) (H : Hp) (vs : List V) (Q : VK) (E : XK), Room k (A.deeper (envOfC qual (defScope st) s.heap.objs.size f cdv)) → sp vs H Q E →
      ∃ t, PSs (cxOf CX0 P w K mg base N qual (defScope st) f cdv A outer s H E).nox (defBody st) t ∧ t { nx := fun _ H' => Q .non H', rt := Q } (start N vs) H) : FnOk P w K mg base CX0 (k + 1) f fd ps sp := by
  obtain ⟨oc, od, kV, doc, pm, an, cdv, ct, osl, rfl, lk, hcd⟩ := F.ex
  refine fn_of lk hcd S len fun A outer s H vs Q E hr hsp => ?_
  obtain ⟨t, h, q⟩ := hbody cdv A outer s H vs Q E hr hsp
  exact ⟨t, h.nox, q⟩
theorem Fun.binds {x qual : Str} {st : Stmt} {f : Addr} {fd : FuncData} {ps : List Str} (F : Fun K x qual st f fd)
    (h : ∀ (kV doc pm : Value) (an : Option Addr) (cdv ct : Value) (us : List Value), us.length = ps.length → bindArgs (PySem.W.fnOf x qual (defArgs st) (defBody st) (defScope st) .none kV doc pm an cdv ct) ⟨us, []⟩ = pure (ps.zip us)) : Binds K fd ps [] := by
  obtain ⟨oc, od, kV, doc, pm, an, cdv, ct, osl, rfl, lk, hcd⟩ := F.ex
  exact .all (h kV doc pm an cdv ct)
theorem fun_mk {x qual : Str} {st : Stmt} {f : Addr} {oc : Value} {od an : Option Addr} {osl : Array (Option Value)} {kV doc pm cdv ct : Value} (l : K.lookup f = some ⟨oc, od, .func (PySem.W.fnOf x qual (defArgs st) (defBody st) (defScope st) .none kV doc pm an cdv ct), osl⟩)
    (c : PySem.W.codeIn K cdv qual = true) (k : PySem.W.keepIn K (.ref f) = true) : Fun K x qual st f (PySem.W.fnOf x qual (defArgs st) (defBody st) (defScope st) .none kV doc pm an cdv ct) := ⟨⟨oc, od, kV, doc, pm, an, cdv, ct, osl, rfl, l, c⟩, k⟩
end
section
variable {X : Cx}
end
theorem iteF {A B : Prop} (h : B) : if false = true then A else B := by
  rw [if_neg Bool.false_ne_true]
  exact h
theorem iteT {A B : Prop} (h : A) : if true = true then A else B := by
  rw [if_pos rfl]
  exact h
def Same (H H' : Hp) : Prop := ∀ b o, H b = some o → H' b = some o
theorem Same.refl (H : Hp) : Same H H := fun _ _ h => h
theorem Same.trans {H H1 H2 : Hp} (a : Same H H1) (b : Same H1 H2) : Same H H2 := fun c o h => b c o (a c o h)
theorem Same.free {H H' : Hp} (e : Same H H') {l : Addr} (h : H' l = Option.none) : H l = Option.none := by
  cases q : H l with
  | none => rfl
  | some o =>
    rw [e l o q] at h
    cases h
theorem Same.seq {K : PySem.W.Frag} {H H' : Hp} {a : Addr} {xs : List V} (e : Same H H') (h : SqL K H a xs) : SqL K H' a xs := by
  rcases h with (h | ⟨o, h⟩) | h
  · exact .inl (.inl (e _ _ h))
  · exact .inl (.inr ⟨o, e _ _ h⟩)
  · exact .inr h
end L2
namespace FD
open PySem PySem.Spec PyProof.Rows L2
inductive Dv where
  | non | bl (b : Bool) | int (i : Int) | str (x : Str) | tup (xs : List Dv) | lst (xs : List Dv) | scr (ns : List Int) | exn (c : Nat)
def xnm : Nat → Str
  | 0 => "NoName" | 1 => "NoTable" | 2 => "NoPath" | 3 => "NoAsk" | 4 => "NoNote" | 5 => "NoJar" | 6 => "NoNumber" | 7 => "NoText" | 8 => "NoStep" | _ => "JarError"
mutual
def Rep (K : PySem.W.Frag) (H : Hp) : Dv → V → Prop
  | .non, v => v = .non
  | .bl b, v => v = .bl b
  | .int i, v => v = .int i
  | .str x, v => v = .str x
  | .tup ds, v => ∃ a xs, v = .ref a ∧ H a = some (.tup xs) ∧ Reps K H ds xs
  | .lst ds, v => ∃ a xs, v = .ref a ∧ H a = some (.lst xs) ∧ Reps K H ds xs
  | .scr ns, v => ∃ a, v = .ref a ∧ SqL K H a (ns.map V.int)
  | .exn c, v => ∃ a o u C, v = .ref a ∧ H a = some (.frz o u) ∧ o.cls = .ref C ∧ PySem.W.nsIn K mainGlobals (xnm c) = some (some (.ref C))
def Reps (K : PySem.W.Frag) (H : Hp) : List Dv → List V → Prop
  | [], vs => vs = []
  | d :: ds, vs => ∃ v us, vs = v :: us ∧ Rep K H d v ∧ Reps K H ds us
end
section
variable {K : PySem.W.Frag} {H H' : Hp}
mutual
theorem Rep.mono (e : Same H H') : ∀ (d : Dv) (v : V), Rep K H d v → Rep K H' d v
  | .non, _, h => h
  | .bl _, _, h => h
  | .int _, _, h => h
  | .str _, _, h => h
  | .tup ds, v, h => by
    obtain ⟨a, xs, r, h, q⟩ : ∃ a xs, v = .ref a ∧ H a = some (.tup xs) ∧ Reps K H ds xs := h
    exact ⟨a, xs, r, e _ _ h, Reps.mono e ds xs q⟩
  | .lst ds, v, h => by
    obtain ⟨a, xs, r, h, q⟩ : ∃ a xs, v = .ref a ∧ H a = some (.lst xs) ∧ Reps K H ds xs := h
    exact ⟨a, xs, r, e _ _ h, Reps.mono e ds xs q⟩
  | .scr ns, v, h => by
    obtain ⟨a, r, h⟩ : ∃ a, v = .ref a ∧ SqL K H a (ns.map V.int) := h
    exact ⟨a, r, e.seq h⟩
  | .exn c, v, h => by
    obtain ⟨a, o, u, C, r, h, q⟩ : ∃ a o u C, v = .ref a ∧ H a = some (.frz o u) ∧ o.cls = .ref C ∧ PySem.W.nsIn K mainGlobals (xnm c) = some (some (.ref C)) := h
    exact ⟨a, o, u, C, r, e _ _ h, q⟩
theorem Reps.mono (e : Same H H') : ∀ (ds : List Dv) (vs : List V), Reps K H ds vs → Reps K H' ds vs
  | [], _, h => h
  | d :: ds, vs, h => by
    obtain ⟨v, us, r, h, q⟩ : ∃ v us, vs = v :: us ∧ Rep K H d v ∧ Reps K H ds us := h
    exact ⟨v, us, r, Rep.mono e d v h, Reps.mono e ds us q⟩
end
theorem Reps.nil : Reps K H [] [] := rfl
theorem Reps.cons {d ds v vs} (h : Rep K H d v) (t : Reps K H ds vs) : Reps K H (d :: ds) (v :: vs) := ⟨v, vs, rfl, h, t⟩
theorem Reps.length : ∀ {ds : List Dv} {vs : List V}, Reps K H ds vs → vs.length = ds.length
  | [], vs, h => by cases (show vs = [] from h); rfl
  | d :: ds, vs, h => by
    obtain ⟨v, us, r, _, q⟩ : ∃ v us, vs = v :: us ∧ Rep K H d v ∧ Reps K H ds us := h
    subst r
    show us.length + 1 = ds.length + 1
    rw [Reps.length q]
theorem Reps.get : ∀ {ds : List Dv} {vs : List V} {i : Nat} {v : V}, Reps K H ds vs → vs[i]? = some v → ∃ d, ds[i]? = some d ∧ Rep K H d v
  | [], vs, i, v, h, e => by cases (show vs = [] from h); simp at e
  | d :: ds, vs, i, v, h, e => by
    obtain ⟨v', us, r, h', q⟩ : ∃ v us, vs = v :: us ∧ Rep K H d v ∧ Reps K H ds us := h
    subst r
    cases i with
    | zero => simp at e; subst e; exact ⟨d, rfl, h'⟩
    | succ i =>
      obtain ⟨d', e', r'⟩ := Reps.get (i := i) q (by simpa using e)
      exact ⟨d', by simpa using e', r'⟩
theorem Reps.get' : ∀ {ds : List Dv} {vs : List V} {i : Nat} {d : Dv}, Reps K H ds vs → ds[i]? = some d → ∃ v, vs[i]? = some v ∧ Rep K H d v
  | [], vs, i, v, h, e => by simp at e
  | d :: ds, vs, i, d0, h, e => by
    obtain ⟨v', us, r, h', q⟩ : ∃ v us, vs = v :: us ∧ Rep K H d v ∧ Reps K H ds us := h
    subst r
    cases i with
    | zero => simp at e; subst e; exact ⟨v', rfl, h'⟩
    | succ i =>
      obtain ⟨d', e', r'⟩ := Reps.get' (i := i) q (by simpa using e)
      exact ⟨d', by simpa using e', r'⟩
theorem Reps.append : ∀ {ds es : List Dv} {vs us : List V}, Reps K H ds vs → Reps K H es us → Reps K H (ds ++ es) (vs ++ us)
  | [], es, vs, us, h, q => by cases (show vs = [] from h); exact q
  | d :: ds, es, vs, us, h, q => by
    obtain ⟨v', vs', r, h', t⟩ : ∃ v us, vs = v :: us ∧ Rep K H d v ∧ Reps K H ds us := h
    subst r
    exact ⟨v', vs' ++ us, rfl, h', Reps.append t q⟩
theorem Reps.take : ∀ {ds : List Dv} {vs : List V} (n : Nat), Reps K H ds vs → Reps K H (ds.take n) (vs.take n)
  | ds, vs, 0, _ => by simp [Reps]
  | [], vs, n + 1, h => by cases (show vs = [] from h); exact rfl
  | d :: ds, vs, n + 1, h => by
    obtain ⟨v', vs', r, h', t⟩ : ∃ v us, vs = v :: us ∧ Rep K H d v ∧ Reps K H ds us := h
    subst r
    exact ⟨v', vs'.take n, rfl, h', Reps.take n t⟩
theorem Reps.drop : ∀ {ds : List Dv} {vs : List V} (n : Nat), Reps K H ds vs → Reps K H (ds.drop n) (vs.drop n)
  | ds, vs, 0, h => h
  | [], vs, n + 1, h => by cases (show vs = [] from h); exact rfl
  | d :: ds, vs, n + 1, h => by
    obtain ⟨v', vs', r, h', t⟩ : ∃ v us, vs = v :: us ∧ Rep K H d v ∧ Reps K H ds us := h
    subst r
    exact Reps.drop n t
theorem Rep.lstE {ds : List Dv} {v : V} (h : Rep K H (.lst ds) v) : ∃ a xs, v = .ref a ∧ H a = some (.lst xs) ∧ Reps K H ds xs := h
theorem Rep.tupE {ds : List Dv} {v : V} (h : Rep K H (.tup ds) v) : ∃ a xs, v = .ref a ∧ H a = some (.tup xs) ∧ Reps K H ds xs := h
theorem Rep.exnE {c : Nat} {v : V} (h : Rep K H (.exn c) v) : ∃ a o u C, v = .ref a ∧ H a = some (.frz o u) ∧ o.cls = .ref C ∧ PySem.W.nsIn K mainGlobals (xnm c) = some (some (.ref C)) := h
theorem Rep.scrE {ns : List Int} {v : V} (h : Rep K H (.scr ns) v) : ∃ a, v = .ref a ∧ SqL K H a (ns.map V.int) := h
end
theorem same_new {H : Hp} {p : Addr} (h : H p = none) (o : HO) : Same H (upd H p o) := fun b u q => by rw [upd_ne (ne_of_none q h)]; exact q
abbrev Ev := List (Option Dv)
structure Envs (K : PySem.W.Frag) (H : Hp) (σ : L2.St) (ρ : Ev) : Prop where
  len : σ.length = ρ.length
  at' : ∀ (i : Nat) (d : Dv), ρ[i]? = some (some d) → ∃ v, σ[i]? = some (some v) ∧ Rep K H d v
theorem Envs.mono {K : PySem.W.Frag} {H H' : Hp} {σ : L2.St} {ρ : Ev} (E : Envs K H σ ρ) (e : Same H H') : Envs K H' σ ρ :=
  ⟨E.len, fun i d h => let ⟨v, h1, h2⟩ := E.at' i d h; ⟨v, h1, Rep.mono e d v h2⟩⟩
theorem Envs.set {K : PySem.W.Frag} {H : Hp} {σ : L2.St} {ρ : Ev} {i : Nat} {d : Dv} {v : V} (E : Envs K H σ ρ) (r : Rep K H d v) : Envs K H (σ.set i (some v)) (ρ.set i (some d)) := by
  refine ⟨by rw [List.length_set, List.length_set]; exact E.len, fun j d' h => ?_⟩
  by_cases hj : i = j
  · subst hj
    by_cases hl : i < ρ.length
    · rw [List.getElem?_set_self hl] at h
      cases h
      exact ⟨v, by rw [List.getElem?_set_self (by rw [E.len]; exact hl)], r⟩
    · rw [List.getElem?_eq_none (by rw [List.length_set]; omega)] at h
      cases h
  · rw [List.getElem?_set_ne hj] at h
    rw [List.getElem?_set_ne hj]
    exact E.at' j d' h
def fgt (js : List Nat) (ρ : Ev) : Ev := js.foldl (fun r j => r.set j none) ρ
theorem Envs.fgt1 {K : PySem.W.Frag} {H : Hp} {σ : L2.St} {ρ : Ev} (j : Nat) (E : Envs K H σ ρ) : Envs K H σ (ρ.set j none) := by
  refine ⟨by rw [List.length_set]; exact E.len, fun i d h => ?_⟩
  by_cases hj : j = i
  · subst hj
    by_cases hl : j < ρ.length
    · rw [List.getElem?_set_self hl] at h
      cases h
    · rw [List.getElem?_eq_none (by rw [List.length_set]; omega)] at h
      cases h
  · rw [List.getElem?_set_ne hj] at h
    exact E.at' i d h
theorem Envs.fgt {K : PySem.W.Frag} {H : Hp} {σ : L2.St} : ∀ (js : List Nat) {ρ : Ev}, Envs K H σ ρ → Envs K H σ (fgt js ρ)
  | [], _, E => E
  | j :: js, _, E => Envs.fgt js (E.fgt1 j)
inductive Rs (α : Type) where
  | ok (a : α)
  | exc (c : Nat)
inductive Fl where
  | nx (ρ : Ev)
  | rt (d : Dv)
  | exc (c : Nat)
def Fly (N : Addr → Prop) (H : Hp) (e : Addr) (cls : Value) (h : Heap) : Prop := H e = none ∧ N e ∧ ∃ oe vs a0, h.get? e = some oe ∧ oe.cls = cls ∧ oe.data = .fields vs ∧ vs[0]? = some a0 ∧
  (vs[1]? = some .none ∨ ∃ T oT ts, vs[1]? = some (.ref T) ∧ T ≠ e ∧ H T = none ∧ N T ∧ h.get? T = some oT ∧ oT.data = .fields ts ∧ ts[3]? = some .none)
def newX (X : Cx) (a : Addr) : Prop := X.s₀.heap.get? a = none ∧ ∀ p ∈ X.pn, p.1 ≠ a
def ExcAt (X : Cx) (H : Hp) (c : Nat) (e : Value) (s : Shared) : Prop := ∃ a C, e = .ref a ∧ PySem.W.nsIn X.K mainGlobals (xnm c) = some (some (.ref C)) ∧ Fly (newX X) H a (.ref C) s.heap
def XW (X : Cx) (c : Nat) (H : Hp) : Prop := ∀ pins σ H' s e, Same H H' → Inv X pins σ H' s → ExcAt X H' c e s → X.xe e s
theorem XW.mono {X : Cx} {c : Nat} {H H' : Hp} (h : XW X c H) (e : Same H H') : XW X c H' := fun pins σ H1 s x e1 I q => h pins σ H1 s x (e.trans e1) I q
def Out (X : Cx) (H : Hp) (o : Option (Rs Dv)) (Q : VK) : Prop := match o with
  | none => False
  | some (.exc c) => XW X c H
  | some (.ok d) => ∀ v H', Same H H' → Rep X.K H' d v → Q v H'
def OutB (X : Cx) (H : Hp) (o : Option (Rs Bool)) (Q : Bool → Hp → Prop) : Prop := match o with
  | none => False
  | some (.exc c) => XW X c H
  | some (.ok d) => ∀ H', Same H H' → Q d H'
def OutA (X : Cx) (H : Hp) (o : Option (Rs (List Dv))) (Q : List V → Hp → Prop) : Prop := match o with
  | none => False
  | some (.exc c) => XW X c H
  | some (.ok ds) => ∀ vs H', Same H H' → Reps X.K H' ds vs → Q vs H'
def OutS (X : Cx) (H : Hp) (o : Option Fl) (D : Ends) : Prop := match o with
  | none => False
  | some (.exc c) => XW X c H
  | some (.rt d) => ∀ v H', Same H H' → Rep X.K H' d v → D.rt v H'
  | some (.nx ρ) => ∀ σ H', Same H H' → Envs X.K H' σ ρ → D.nx σ H'
def bnd {α β : Type} (o : Option (Rs α)) (k : α → Option (Rs β)) : Option (Rs β) := match o with
  | none => none
  | some (.exc c) => some (.exc c)
  | some (.ok a) => k a
def bndS {α : Type} (o : Option (Rs α)) (k : α → Option Fl) : Option Fl := match o with
  | none => none
  | some (.exc c) => some (.exc c)
  | some (.ok a) => k a
def sq (o : Option Fl) (k : Ev → Option Fl) : Option Fl := match o with
  | some (.nx ρ) => k ρ
  | o => o
section
variable {X : Cx} {H H' : Hp} {Q : VK} {QB : Bool → Hp → Prop} {QA : List V → Hp → Prop} {D : Ends}
theorem Out.mono (e : Same H H') : ∀ {o : Option (Rs Dv)}, Out X H o Q → Out X H' o Q
  | none, h => h
  | some (.exc _), h => XW.mono h e
  | some (.ok _), h => fun v H1 e1 r => h v H1 (e.trans e1) r
theorem OutB.mono (e : Same H H') : ∀ {o : Option (Rs Bool)}, OutB X H o QB → OutB X H' o QB
  | none, h => h
  | some (.exc _), h => XW.mono h e
  | some (.ok _), h => fun H1 e1 => h H1 (e.trans e1)
theorem OutA.mono (e : Same H H') : ∀ {o : Option (Rs (List Dv))}, OutA X H o QA → OutA X H' o QA
  | none, h => h
  | some (.exc _), h => XW.mono h e
  | some (.ok _), h => fun v H1 e1 r => h v H1 (e.trans e1) r
theorem OutS.mono (e : Same H H') : ∀ {o : Option Fl}, OutS X H o D → OutS X H' o D
  | none, h => h
  | some (.exc _), h => XW.mono h e
  | some (.rt _), h => fun v H1 e1 r => h v H1 (e.trans e1) r
  | some (.nx _), h => fun v H1 e1 r => h v H1 (e.trans e1) r
theorem Out.bind {o : Option (Rs Dv)} {k : Dv → Option (Rs Dv)} {P : VK} (h : Out X H (bnd o k) Q) (hp : ∀ d v H', Same H H' → Rep X.K H' d v → Out X H' (k d) Q → P v H') : Out X H o P := by
  match o, h with
  | some (.exc _), h => exact h
  | some (.ok d), h => exact fun v H1 e r => hp d v H1 e r (Out.mono e h)
theorem Out.bindB {o : Option (Rs Dv)} {k : Dv → Option (Rs Bool)} {P : VK} (h : OutB X H (bnd o k) QB) (hp : ∀ d v H', Same H H' → Rep X.K H' d v → OutB X H' (k d) QB → P v H') : Out X H o P := by
  match o, h with
  | some (.exc _), h => exact h
  | some (.ok d), h => exact fun v H1 e r => hp d v H1 e r (OutB.mono e h)
theorem Out.bindA {o : Option (Rs Dv)} {k : Dv → Option (Rs (List Dv))} {P : VK} (h : OutA X H (bnd o k) QA) (hp : ∀ d v H', Same H H' → Rep X.K H' d v → OutA X H' (k d) QA → P v H') : Out X H o P := by
  match o, h with
  | some (.exc _), h => exact h
  | some (.ok d), h => exact fun v H1 e r => hp d v H1 e r (OutA.mono e h)
theorem Out.bindS {o : Option (Rs Dv)} {k : Dv → Option Fl} {P : VK} (h : OutS X H (bndS o k) D) (hp : ∀ d v H', Same H H' → Rep X.K H' d v → OutS X H' (k d) D → P v H') : Out X H o P := by
  match o, h with
  | some (.exc _), h => exact h
  | some (.ok d), h => exact fun v H1 e r => hp d v H1 e r (OutS.mono e h)
theorem OutB.bind {o : Option (Rs Bool)} {k : Bool → Option (Rs Dv)} {P : Bool → Hp → Prop} (h : Out X H (bnd o k) Q) (hp : ∀ b H', Same H H' → Out X H' (k b) Q → P b H') : OutB X H o P := by
  match o, h with
  | some (.exc _), h => exact h
  | some (.ok d), h => exact fun H1 e => hp d H1 e (Out.mono e h)
theorem OutB.bindB {o : Option (Rs Bool)} {k : Bool → Option (Rs Bool)} {P : Bool → Hp → Prop} (h : OutB X H (bnd o k) QB) (hp : ∀ b H', Same H H' → OutB X H' (k b) QB → P b H') : OutB X H o P := by
  match o, h with
  | some (.exc _), h => exact h
  | some (.ok d), h => exact fun H1 e => hp d H1 e (OutB.mono e h)
theorem OutB.bindS {o : Option (Rs Bool)} {k : Bool → Option Fl} {P : Bool → Hp → Prop} (h : OutS X H (bndS o k) D) (hp : ∀ b H', Same H H' → OutS X H' (k b) D → P b H') : OutB X H o P := by
  match o, h with
  | some (.exc _), h => exact h
  | some (.ok d), h => exact fun H1 e => hp d H1 e (OutS.mono e h)
theorem OutA.bind {o : Option (Rs (List Dv))} {k : List Dv → Option (Rs Dv)} {P : List V → Hp → Prop} (h : Out X H (bnd o k) Q) (hp : ∀ ds vs H', Same H H' → Reps X.K H' ds vs → Out X H' (k ds) Q → P vs H') : OutA X H o P := by
  match o, h with
  | some (.exc _), h => exact h
  | some (.ok d), h => exact fun v H1 e r => hp d v H1 e r (Out.mono e h)
theorem OutA.bindA {o : Option (Rs (List Dv))} {k : List Dv → Option (Rs (List Dv))} {P : List V → Hp → Prop} (h : OutA X H (bnd o k) QA) (hp : ∀ ds vs H', Same H H' → Reps X.K H' ds vs → OutA X H' (k ds) QA → P vs H') : OutA X H o P := by
  match o, h with
  | some (.exc _), h => exact h
  | some (.ok d), h => exact fun v H1 e r => hp d v H1 e r (OutA.mono e h)
end
abbrev FnE := Ev → Option (Rs Dv)
abbrev FnB := Ev → Option (Rs Bool)
abbrev FnA := Ev → Option (Rs (List Dv))
abbrev FnS := Ev → Option Fl
def tF (X : Cx) (f : FnE) : TE := fun σ H Q => ∃ ρ, Envs X.K H σ ρ ∧ Out X H (f ρ) Q
def tT (X : Cx) (f : FnB) : TT := fun σ H Q => ∃ ρ, Envs X.K H σ ρ ∧ OutB X H (f ρ) Q
def tA (X : Cx) (f : FnA) : TA := fun σ H Q => ∃ ρ, Envs X.K H σ ρ ∧ OutA X H (f ρ) Q
def tS (X : Cx) (f : FnS) : TS := fun D σ H => ∃ ρ, Envs X.K H σ ρ ∧ OutS X H (f ρ) D
structure FE (X : Cx) (e : Expr) (f : FnE) : Prop where
  h : PE X e (tF X f)
structure FT (X : Cx) (e : Expr) (f : FnB) : Prop where
  h : PT X e (tT X f)
structure FW (X : Cx) (e : Expr) (f : FnB) : Prop where
  h : PW X e (tT X f)
structure FA (X : Cx) (es : List Expr) (f : FnA) : Prop where
  h : PA X es (tA X f)
structure FS (X : Cx) (st : Stmt) (f : FnS) : Prop where
  h : PS X st (tS X f)
structure FSs (X : Cx) (st : List Stmt) (f : FnS) : Prop where
  h : PSs X st (tS X f)
section
variable {X : Cx} {a b c e : Expr} {es : List Expr} {fa fb fc : FnE} {pos : Pos}
theorem fe_of {t : TE} {f : FnE} (h : PE X e t) (w : ∀ σ H Q ρ, Envs X.K H σ ρ → Out X H (f ρ) Q → t σ H Q) : FE X e f :=
  ⟨fun pins s σ H Q I ⟨ρ, E, o⟩ => h pins s σ H Q I (w σ H Q ρ E o)⟩
theorem ft_of {t : TT} {f : FnB} (h : PT X e t) (w : ∀ σ H Q ρ, Envs X.K H σ ρ → OutB X H (f ρ) Q → t σ H Q) : FT X e f :=
  ⟨fun pins s σ H Q I ⟨ρ, E, o⟩ => h pins s σ H Q I (w σ H Q ρ E o)⟩
theorem fw_of {t : TT} {f : FnB} (h : PW X e t) (w : ∀ σ H Q ρ, Envs X.K H σ ρ → OutB X H (f ρ) Q → t σ H Q) : FW X e f :=
  ⟨fun wh pins s σ H Q I ⟨ρ, E, o⟩ => h wh pins s σ H Q I (w σ H Q ρ E o)⟩
theorem fs_of {st : Stmt} {t : TS} {f : FnS} (h : PS X st t) (w : ∀ D σ H ρ, Envs X.K H σ ρ → OutS X H (f ρ) D → t D σ H) : FS X st f :=
  ⟨fun pins s σ H D I ⟨ρ, E, o⟩ => h pins s σ H D I (w D σ H ρ E o)⟩
theorem fss_of {st : List Stmt} {t : TS} {f : FnS} (h : PSs X st t) (w : ∀ D σ H ρ, Envs X.K H σ ρ → OutS X H (f ρ) D → t D σ H) : FSs X st f :=
  ⟨fun pins s σ H D I ⟨ρ, E, o⟩ => h pins s σ H D I (w D σ H ρ E o)⟩
theorem FW.ft {f : FnB} (h : FW X e f) : FT X e f := ⟨h.h _⟩
def fVar (i : Nat) : FnE := fun ρ => match ρ[i]? with
  | some (some d) => some (.ok d)
  | _ => none
def fC (d : Dv) : FnE := fun _ => some (.ok d)
theorem fe_pv (i : Nat) (h : PE X e (tVar i)) : FE X e (fVar i) := fe_of h fun σ H Q ρ E o => by
  unfold fVar at o
  split at o
  · rename_i d hd
    obtain ⟨v, h1, h2⟩ := E.at' i d hd
    exact ⟨v, h1, o v H (.refl H) h2⟩
  · exact o.elim
theorem glb {x : Str} (h : X.env.kindOf x = some .globalImplicit) : Gl X x := h
theorem fe_lv (i : Nat) {x : Str} (hN : X.N[i]? = some x := by kernel_rfl) (hv : X.env.scope.names.lookup x = some .local := by kernel_rfl) (hd : (x == ("__debug__" : Str)) = false := by kernel_rfl) (hcd : (x == ("__classdict__" : Str)) = false := by kernel_rfl) : FE X (.Name x pos) (fVar i) := fe_pv i (pe_var hN (.inl hv) hd hcd)
theorem fe_cv (i : Nat) {x : Str} (hN : X.N[i]? = some x := by kernel_rfl) (hv : X.env.scope.names.lookup x = some .cell := by kernel_rfl) (hd : (x == ("__debug__" : Str)) = false := by kernel_rfl) (hcd : (x == ("__classdict__" : Str)) = false := by kernel_rfl) : FE X (.Name x pos) (fVar i) := fe_pv i (pe_var hN (.inr (.inl hv)) hd hcd)
theorem fe_c {d : Dv} {v : V} (h : PE X e (tC v)) (r : ∀ K H, Rep K H d v) : FE X e (fC d) := fe_of h fun _ H _ _ _ o => o v H (.refl H) (r X.K H)
theorem fe_int {i j} : FE X (.Constant (.int i) j pos) (fC (.int i)) := fe_c pe_int fun _ _ => rfl
theorem fe_bl {b j} : FE X (.Constant (.bool b) j pos) (fC (.bl b)) := fe_c pe_bl fun _ _ => rfl
theorem fe_non {j} : FE X (.Constant .none j pos) (fC .non) := fe_c pe_non fun _ _ => rfl
theorem fe_str {x j} : FE X (.Constant (.str x) j pos) (fC (.str x)) := fe_c pe_str fun _ _ => rfl
theorem fe_gint {x : Str} {i : Int} {t : Tok} (hg : Gl X x) (hm : X.mg x = some (.int i t)) (hd : (x == ("__debug__" : Str)) = false := by kernel_rfl) : FE X (.Name x pos) (fC (.int i)) := fe_c (pe_glob (v := .int i) hg hm ⟨t, rfl⟩ hd) fun _ _ => rfl
theorem fe_gstr {x : Str} {i : Str} {t : Tok} (hg : Gl X x) (hm : X.mg x = some (.str i t)) (hd : (x == ("__debug__" : Str)) = false := by kernel_rfl) : FE X (.Name x pos) (fC (.str i)) := fe_c (pe_glob (v := .str i) hg hm ⟨t, rfl⟩ hd) fun _ _ => rfl
def f2 (g : Dv → Dv → Option (Rs Dv)) (fa fb : FnE) : FnE := fun ρ => bnd (fa ρ) fun x => bnd (fb ρ) fun y => g x y
def GOp (X : Cx) (r : R2) (g : Dv → Dv → Option (Rs Dv)) : Prop := ∀ dx dy x y H Q, Rep X.K H dx x → Rep X.K H dy y → Out X H (g dx dy) Q → r x y H Q
theorem two {r : R2} {g : Dv → Dv → Option (Rs Dv)} (hg : GOp X r g) {σ : L2.St} {H : Hp} {Q : VK} {ρ : Ev} (E : Envs X.K H σ ρ) (o : Out X H (f2 g fa fb ρ) Q) : tOp r (tF X fa) (tF X fb) σ H Q :=
  ⟨ρ, E, Out.bind o fun dx x H1 e1 rx o1 => ⟨ρ, E.mono e1, Out.bind o1 fun dy y H2 e2 ry o2 => hg dx dy x y H2 Q (Rep.mono e2 dx x rx) ry o2⟩⟩
theorem fe_op {op : Operator} {r : R2} {g : Dv → Dv → Option (Rs Dv)} (ho : OpR X (binaryOp op) r) (hg : GOp X r g) (ha : FE X a fa) (hb : FE X b fb) : FE X (.BinOp a op b pos) (f2 g fa fb) :=
  fe_of (pe_op ho ha.h hb.h) fun _ _ _ _ E o => two hg E o
theorem fe_cmp {op : CmpOp} {r : R2} {g : Dv → Dv → Option (Rs Dv)} (ho : OpR X (compareOp op) r) (hg : GOp X r g) (ha : FE X a fa) (hb : FE X b fb) (hm : behindInMarks op b = false) : FE X (.Compare a [op] [b] pos) (f2 g fa fb) :=
  fe_of (pe_cmpR ho ha.h hb.h hm) fun _ _ _ _ E o => two hg E o
def toB : Dv → Option (Rs Bool)
  | .bl b => some (.ok b)
  | _ => none
def fB (f : FnE) : FnB := fun ρ => bnd (f ρ) toB
theorem outB_toB {H : Hp} {d : Dv} {v : V} {QB : Bool → Hp → Prop} (r : Rep X.K H d v) (o : OutB X H (toB d) QB) : ∃ k, v = .bl k ∧ QB k H := by
  cases d with
  | bl b => exact ⟨b, r, o H (.refl H)⟩
  | _ => exact o.elim
theorem ft_cmp {op : CmpOp} {r : R2} {g : Dv → Dv → Option (Rs Dv)} (ho : OpR X (compareOp op) r) (hg : GOp X r g) (ha : FE X a fa) (hb : FE X b fb) (hm : behindInMarks op b = false) : FT X (.Compare a [op] [b] pos) (fB (f2 g fa fb)) :=
  ft_of (pt_cmpR ho ha.h hb.h hm) fun σ H Q ρ E o => by
    show tOp r (tF X fa) (tF X fb) σ H _
    refine two hg E ?_
    exact Out.bindB o fun d v H' e r o' => outB_toB r o'
theorem ft_val (ha : FE X a fa) (he : ∀ whole, isTrue a X.env whole = (do let v ← whole; standAt a.pos; holding [v] (truthy v)) := by intro _; kernel_rfl) : FT X a (fB fa) :=
  ft_of (pt_val ha.h he) fun σ H Q ρ E o => ⟨ρ, E, Out.bindB o fun d v H' e r o' => outB_toB r o'⟩
def bAnd (f g : FnB) : FnB := fun ρ => bnd (f ρ) fun k => if k then g ρ else some (.ok false)
def bOr (f g : FnB) : FnB := fun ρ => bnd (f ρ) fun k => if k then some (.ok true) else g ρ
def bNot (f : FnB) : FnB := fun ρ => bnd (f ρ) fun k => some (.ok (!k))
variable {ga gb : FnB} {rest : List Expr}
theorem fw_and1 (ha : FT X a ga) : FW X (.BoolOp .And [a] pos) ga := ⟨pw_and1 ha.h⟩
theorem fw_or1 (ha : FT X a ga) : FW X (.BoolOp .Or [a] pos) ga := ⟨pw_or1 ha.h⟩
theorem fw_and (ha : FT X a ga) (hb : FW X (.BoolOp .And (b :: rest) pos) gb) : FW X (.BoolOp .And (a :: b :: rest) pos) (bAnd ga gb) :=
  fw_of (pw_and ha.h hb.h) fun σ H Q ρ E o => ⟨ρ, E, OutB.bindB o fun k H1 e o' => by
    cases k with
    | true => exact iteT ⟨ρ, E.mono e, o'⟩
    | false => exact iteF (o' H1 (.refl H1))⟩
theorem fw_or (ha : FT X a ga) (hb : FW X (.BoolOp .Or (b :: rest) pos) gb) : FW X (.BoolOp .Or (a :: b :: rest) pos) (bOr ga gb) :=
  fw_of (pw_or ha.h hb.h) fun σ H Q ρ E o => ⟨ρ, E, OutB.bindB o fun k H1 e o' => by
    cases k with
    | true => exact iteT (o' H1 (.refl H1))
    | false => exact iteF ⟨ρ, E.mono e, o'⟩⟩
theorem ft_not (ha : FT X a ga) : FT X (.UnaryOp .Not a pos) (bNot ga) :=
  ft_of (pt_not ha.h) fun σ H Q ρ E o => ⟨ρ, E, OutB.bindB o fun k H1 e o' => o' H1 (.refl H1)⟩
def vAnd (f g : FnE) : FnE := fun ρ => bnd (f ρ) fun x => bnd (toB x) fun k => if k then g ρ else some (.ok (.bl false))
def vOr (f g : FnE) : FnE := fun ρ => bnd (f ρ) fun x => bnd (toB x) fun k => if k then some (.ok (.bl true)) else g ρ
def vNot (f : FnE) : FnE := fun ρ => bnd (f ρ) fun x => bnd (toB x) fun k => some (.ok (.bl (!k)))
theorem out_toB {H : Hp} {d : Dv} {v : V} {k : Bool → Option (Rs Dv)} {Q : VK} (r : Rep X.K H d v) (o : Out X H (bnd (toB d) k) Q) : ∃ b, v = .bl b ∧ Out X H (k b) Q := by
  cases d with
  | bl b => exact ⟨b, r, o⟩
  | _ => exact o.elim
theorem fe_one {op} (ha : FE X a fa) : FE X (.BoolOp op [a] pos) fa := ⟨pe_one ha.h⟩
theorem fe_and (ha : FE X a fa) (hb : FE X (.BoolOp .And (b :: rest) pos) fb) : FE X (.BoolOp .And (a :: b :: rest) pos) (vAnd fa fb) :=
  fe_of (pe_and ha.h hb.h) fun σ H Q ρ E o => ⟨ρ, E, Out.bind o fun d v H1 e r o' => by
    obtain ⟨k, rfl, o2⟩ := out_toB r o'
    refine ⟨k, rfl, ?_⟩
    cases k with
    | true => exact iteT ⟨ρ, E.mono e, o2⟩
    | false => exact iteF (o2 (.bl false) H1 (.refl H1) rfl)⟩
theorem fe_or (ha : FE X a fa) (hb : FE X (.BoolOp .Or (b :: rest) pos) fb) : FE X (.BoolOp .Or (a :: b :: rest) pos) (vOr fa fb) :=
  fe_of (pe_or ha.h hb.h) fun σ H Q ρ E o => ⟨ρ, E, Out.bind o fun d v H1 e r o' => by
    obtain ⟨k, rfl, o2⟩ := out_toB r o'
    refine ⟨k, rfl, ?_⟩
    cases k with
    | true => exact iteT (o2 (.bl true) H1 (.refl H1) rfl)
    | false => exact iteF ⟨ρ, E.mono e, o2⟩⟩
theorem fe_not (ha : FE X a fa) : FE X (.UnaryOp .Not a pos) (vNot fa) :=
  fe_of (pe_not ha.h) fun σ H Q ρ E o => ⟨ρ, E, Out.bind o fun d v H1 e r o' => by
    obtain ⟨k, rfl, o2⟩ := out_toB r o'
    exact ⟨k, rfl, o2 (.bl (!k)) H1 (.refl H1) rfl⟩⟩
def fIf (c : FnB) (f g : FnE) : FnE := fun ρ => bnd (c ρ) fun k => if k then f ρ else g ρ
theorem fe_if (hc : FT X c ga) (ha : FE X a fa) (hb : FE X b fb) : FE X (.IfExp c a b pos) (fIf ga fa fb) :=
  fe_of (pe_ifExp hc.h ha.h hb.h) fun σ H Q ρ E o => ⟨ρ, E, OutB.bind o fun k H1 e o' => by
    cases k with
    | true => exact iteT ⟨ρ, E.mono e, o'⟩
    | false => exact iteF ⟨ρ, E.mono e, o'⟩⟩
def aNil : FnA := fun _ => some (.ok [])
def aCons (f : FnE) (g : FnA) : FnA := fun ρ => bnd (f ρ) fun x => bnd (g ρ) fun xs => some (.ok (x :: xs))
theorem fa_of {t : TA} {f : FnA} (h : PA X es t) (w : ∀ σ H Q ρ, Envs X.K H σ ρ → OutA X H (f ρ) Q → t σ H Q) : FA X es f :=
  ⟨fun pos pins s σ H Q I ⟨ρ, E, o⟩ => h pos pins s σ H Q I (w σ H Q ρ E o)⟩
theorem fa_nil : FA X [] aNil := fa_of pa_nil fun _ H _ _ _ o => o [] H (.refl H) rfl
theorem fa_cons {g : FnA} (ha : FE X e fa) (hr : FA X es g) (hs : starEach (e :: es) X.env = (false, eval e X.env) :: starEach es X.env := by kernel_rfl) : FA X (e :: es) (aCons fa g) :=
  fa_of (pa_cons ha.h hr.h hs) fun σ H Q ρ E o => ⟨ρ, E, Out.bindA o fun d v H1 e r o1 => ⟨ρ, E.mono e, OutA.bindA o1 fun ds vs H2 e2 rs o2 => o2 (v :: vs) H2 (.refl H2) ⟨v, vs, rfl, Rep.mono e2 d v r, rs⟩⟩⟩
def fLst (g : FnA) : FnE := fun ρ => bnd (g ρ) fun ds => if ds.length ≤ 100000 then some (.ok (.lst ds)) else none
def fTup (g : FnA) : FnE := fun ρ => bnd (g ρ) fun ds => if ds.length ≤ 100000 then some (.ok (.tup ds)) else none
theorem le_line {n : Nat} (h : n ≤ 100000) : n ≤ sizeLine := Nat.le_trans h (by rw [sizeLine_eq]; decide)
theorem fe_lst {g : FnA} (h : FA X es g) : FE X (.List es pos) (fLst g) :=
  fe_of (pe_lst h.h) fun σ H Q ρ E o => ⟨ρ, E, OutA.bind o fun ds vs H1 e rs o1 => by
    split at o1
    · rename_i hl
      refine ⟨by rw [rs.length]; exact le_line hl, fun p hp => o1 (.ref p) _ (same_new hp _) ⟨p, vs, rfl, upd_same, Reps.mono (same_new hp _) _ _ rs⟩⟩
    · exact o1.elim⟩
theorem fe_tup {g : FnA} {k} (h : FA X es g) : FE X (.Tuple es k pos) (fTup g) :=
  fe_of (pe_tup h.h) fun σ H Q ρ E o => ⟨ρ, E, OutA.bind o fun ds vs H1 e rs o1 => by
    split at o1
    · rename_i hl
      refine ⟨by rw [rs.length]; exact le_line hl, fun p hp => o1 (.ref p) _ (same_new hp _) ⟨p, vs, rfl, upd_same, Reps.mono (same_new hp _) _ _ rs⟩⟩
    · exact o1.elim⟩
variable {st : Stmt} {sts : List Stmt} {f g : FnS}
theorem fss_nil : FSs X [] (fun ρ => some (.nx ρ)) := fss_of pss_nil fun D σ H ρ E o => o σ H (.refl H) E
def fSeq (f g : FnS) : FnS := fun ρ => sq (f ρ) g
theorem fss_cons (h1 : FS X st f) (h2 : FSs X sts g) : FSs X (st :: sts) (fSeq f g) :=
  fss_of (pss_cons h1.h h2.h) fun D σ H ρ E o => ⟨ρ, E, by
    unfold fSeq at o
    match hf : f ρ with
    | none => rw [hf] at o; exact o.elim
    | some (.exc c) => rw [hf] at o; exact o
    | some (.rt d) => rw [hf] at o; exact o
    | some (.nx ρ') => rw [hf] at o; exact fun σ' H' e E' => ⟨ρ', E', OutS.mono e o⟩⟩
theorem fss_one (h1 : FS X st f) : FSs X [st] f := ⟨pss_one h1.h⟩
def fRet (f : FnE) : FnS := fun ρ => bndS (f ρ) fun d => some (.rt d)
theorem fs_ret (he : FE X e fa) : FS X (.Return (some e) pos) (fRet fa) :=
  fs_of (ps_ret he.h) fun D σ H ρ E o => ⟨ρ, E, Out.bindS o fun d v H1 e r o1 => o1 v H1 (.refl H1) r⟩
def fRetN : FnS := fun _ => some (.rt .non)
def fDrop (f : FnE) : FnS := fun ρ => bndS (f ρ) fun _ => some (.nx ρ)
theorem fs_expr (he : FE X e fa) (hs : swapsWith e none pos.line X.env = pure false := by kernel_rfl) : FS X (.Expr e pos) (fDrop fa) :=
  fs_of (ps_expr he.h hs) fun D σ H ρ E o => ⟨ρ, E, Out.bindS o fun d v H1 e r o1 => o1 σ H1 (.refl H1) (E.mono e)⟩
def fSet (i : Nat) (f : FnE) : FnS := fun ρ => bndS (f ρ) fun d => some (.nx (ρ.set i (some d)))
theorem fs_set (i : Nat) {x : Str} {pos' : Pos} (hN : X.N.Nodup) (hi : X.N[i]? = some x) (hx : Loc X.env.scope x) (he : FE X e fa) (hs : swapsWith e (some (.Name x pos')) pos.line X.env = pure false := by kernel_rfl) (hf : X.fn x = true ∨ X.env.scope.names.lookup x = some .local := by first | exact .inl rfl | exact .inr rfl | assumption) :
    FS X (.Assign [.Name x pos'] e pos) (fSet i fa) :=
  fs_of (ps_set hN hi hx he.h hs hf) fun D σ H ρ E o => ⟨ρ, E, Out.bindS o fun d v H1 e r o1 => o1 _ H1 (.refl H1) ((E.mono e).set r)⟩
def fIfS (c : FnB) (f g : FnS) : FnS := fun ρ => bndS (c ρ) fun k => if k then f ρ else g ρ
theorem fs_if {as bs : List Stmt} (hc : FT X c ga) (ha : FSs X as f) (hb : FSs X bs g) : FS X (.If c as bs pos) (fIfS ga f g) :=
  fs_of (ps_if hc.h ha.h hb.h) fun D σ H ρ E o => ⟨ρ, E, OutB.bindS o fun k H1 e o1 => by
    cases k with
    | true => exact iteT ⟨ρ, E.mono e, o1⟩
    | false => exact iteF ⟨ρ, E.mono e, o1⟩⟩
def fNever : FnS := fun _ => none
end
end FD
namespace FD
open PySem PySem.Spec PyProof.Rows L2
def Its (z : Str) : It := ⟨fun i _ => i < z.cps.size, fun i H x H' => H' = H ∧ ∃ c, z.cps[i]? = some c ∧ x = .str ⟨#[c]⟩, fun i _ => i = z.cps.size⟩
theorem walks_str {prog : Program} {w : World} {A : Around} (hh : A.handled = none) (I : Addr) (x : Str) (t : Tok) {ty : String} (hty : ty = "str_ascii_iterator" ∨ ty = "str_iterator") :
    Walks prog w A I [I] [I] x.cps.size (SignAt x) (fun i h => h.IsStrIter I ty x t i) := by
  rcases hty with rfl | rfl
  · exact Walks.strAscii hh I x t
  · exact Walks.strWide hh I x t
theorem turn_str {P : Program} {w : World} {K : PySem.W.Frag} {tg : Expr} (z : Str) (t : Tok) (it : Addr) {ty : String} (hty : ty = "str_ascii_iterator" ∨ ty = "str_iterator") : Turn P w K tg (Its z) [it] it (fun i h => h.IsStrIter it ty z t i) where
  mem := by simp
  obj := fun i h st b hb => by
    have e : b = it := by simpa using hb
    subst e
    obtain ⟨o, e, c, d⟩ := st
    exact ⟨o, e, fun v z => by rw [d] at z; cases z⟩
  keep := fun i h h' st k => let ⟨o, ho, r⟩ := st; ⟨o, k it (by simp) o ho, r⟩
  item := by
    intro X hP hw hK hc i pins s σ H E I hf st hg
    subst hP hw hK
    obtain ⟨f0, f1, f2, f3, f4, f5⟩ := hf it (by simp)
    have W := walks_str (prog := X.prog) (w := X.w) (I.ok.hd hc) it z t hty
    refine W.item i s _ _ hg st fun v h' tk hv st' kk => ?_
    obtain ⟨c, u, hc', rfl⟩ := hv
    have I1 : Inv X pins σ H { s with heap := h', toks := tk } := I.turned (fun b o hb e => kk b o (by simpa using hb) e) f0 f1 f3 f4 f5
    obtain ⟨o, e, c', d⟩ := id st'
    refine ⟨_, rfl, go_of (s := { s with heap := h', toks := tk }) e c' d (by rcases hty with rfl | rfl <;> decide) ⟨.str ⟨#[c]⟩, H, I1, ⟨u, rfl⟩, ⟨rfl, c, hc', rfl⟩, st', fun b hb => (hf b hb).1⟩⟩
  done := by
    intro X hP hw hK hc i pins s σ H E I hf st hg
    subst hP hw hK
    obtain ⟨f0, f1, f2, f3, f4, f5⟩ := hf it (by simp)
    have W := walks_str (prog := X.prog) (w := X.w) (I.ok.hd hc) it z t hty
    have hg' : i = z.cps.size := hg
    subst hg'
    exact W.done s _ _ st fun h' tk kk => ⟨rfl, I.turned (fun b o hb e => kk b o (by simpa using hb) e) f0 f1 f3 f4 f5⟩
  self := fun A i s Q E st h => by
    rcases hty with rfl | rfl
    · exact wpAny_pyIter_striter_ascii st h
    · exact wpAny_pyIter_striter_wide st h
structure Wk (K : PySem.W.Frag) (J : It) (ds : List Dv) (H0 : Hp) : Prop where
  go : ∀ i H, Same H0 H → i < ds.length → J.go i H
  stop : ∀ H, Same H0 H → J.stop ds.length H
  yld : ∀ i H x H', Same H0 H → i < ds.length → J.yld i H x H' → H' = H ∧ ∃ d, ds[i]? = some d ∧ Rep K H d x
def OutI (X : Cx) (H : Hp) (o : Option (Rs (List Dv))) (R : It → Hp → Prop) : Prop := match o with
  | none => False
  | some (.exc c) => XW X c H
  | some (.ok ds) => ∀ J H', Same H H' → Wk X.K J ds H' → R J H'
structure FI (X : Cx) (tg iter : Expr) (f : FnA) : Prop where
  h : PI X tg iter fun σ H R => ∃ ρ, Envs X.K H σ ρ ∧ OutI X H (f ρ) R
theorem OutI.mono {X : Cx} {H H' : Hp} {R : It → Hp → Prop} (e : Same H H') : ∀ {o : Option (Rs (List Dv))}, OutI X H o R → OutI X H' o R
  | none, h => h
  | some (.exc _), h => XW.mono h e
  | some (.ok _), h => fun v H1 e1 r => h v H1 (e.trans e1) r
def signs (z : Str) : List Dv := z.cps.toList.map fun c => .str ⟨#[c]⟩
def items : Dv → Option (Rs (List Dv))
  | .lst ds => some (.ok ds)
  | .tup ds => some (.ok ds)
  | .str z => some (.ok (signs z))
  | _ => none
def iSeq (f : FnE) : FnA := fun ρ => bnd (f ρ) items
theorem wk_list {K : PySem.W.Frag} {H : Hp} {a : Addr} {xs : List V} {ds : List Dv} (h : H a = some (.lst xs)) (r : Reps K H ds xs) : Wk K (Itl K a) ds H where
  go := fun i H' e hi => by
    have hx : i < xs.length := by rw [r.length]; exact hi
    exact ⟨xs, xs[i], SqL.of (e _ _ h), by simp [hx]⟩
  stop := fun H' e => ⟨xs, SqL.of (e _ _ h), by rw [r.length]; exact Nat.le_refl _⟩
  yld := fun i H' x H2 e hi y => by
    obtain ⟨e2, y⟩ := y
    obtain ⟨d, h1, h2⟩ := Reps.get (Reps.mono e _ _ r) (y xs (SqL.of (e _ _ h)))
    exact ⟨e2, d, h1, h2⟩
theorem wk_tup {K : PySem.W.Frag} {H : Hp} {a : Addr} {xs : List V} {ds : List Dv} (h : H a = some (.tup xs)) (r : Reps K H ds xs) : Wk K (Itt K a) ds H where
  go := fun i H' e hi => by
    have hx : i < xs.length := by rw [r.length]; exact hi
    exact ⟨xs, xs[i], SqT.of (e _ _ h), by simp [hx]⟩
  stop := fun H' e => ⟨xs, SqT.of (e _ _ h), by rw [r.length]; exact Nat.le_refl _⟩
  yld := fun i H' x H2 e hi y => by
    obtain ⟨e2, y⟩ := y
    obtain ⟨d, h1, h2⟩ := Reps.get (Reps.mono e _ _ r) (y xs (SqT.of (e _ _ h)))
    exact ⟨e2, d, h1, h2⟩
theorem wk_str {K : PySem.W.Frag} {H : Hp} {z : Str} : Wk K (Its z) (signs z) H where
  go := fun i H' e hi => by show i < z.cps.size; simpa [signs] using hi
  stop := fun H' e => by show (signs z).length = z.cps.size; simp [signs]
  yld := fun i H' x H2 e hi y => by
    obtain ⟨e2, c, hc, rfl⟩ := y
    refine ⟨e2, .str ⟨#[c]⟩, ?_, rfl⟩
    have hc' : z.cps.toList[i]? = some c := by simpa using hc
    rw [signs, List.getElem?_map, hc'] <;> rfl
def rng (lo : Int) : Nat → List Dv
  | 0 => []
  | n + 1 => .int lo :: rng (lo + 1) n
theorem rng_length : ∀ (n : Nat) (lo : Int), (rng lo n).length = n
  | 0, _ => rfl
  | n + 1, lo => by show (rng (lo + 1) n).length + 1 = n + 1; rw [rng_length]
theorem rng_get : ∀ (n : Nat) (lo : Int) (i : Nat), i < n → (rng lo n)[i]? = some (.int (lo + i))
  | 0, _, _, h => by omega
  | n + 1, lo, 0, _ => by simp [rng]
  | n + 1, lo, i + 1, h => by
    have q := rng_get n (lo + 1) i (by omega)
    show (Dv.int lo :: rng (lo + 1) n)[i + 1]? = _
    rw [List.getElem?_cons_succ, q]
    congr 2
    omega
theorem wk_range {K : PySem.W.Frag} {H : Hp} {lo : Int} {n : Nat} : Wk K (Itr lo n) (rng lo n) H where
  go := fun i H' e hi => by rw [rng_length] at hi; exact hi
  stop := fun H' e => by show n ≤ (rng lo n).length; rw [rng_length]; exact Nat.le_refl _
  yld := fun i H' x H2 e hi y => by
    obtain ⟨e2, rfl⟩ := y
    rw [rng_length] at hi
    exact ⟨e2, _, rng_get n lo i hi, rfl⟩
section
variable {X : Cx} {tg l a b : Expr} {fl : FnE} {pos p : Pos}
theorem fi_seq (hl : FE X l fl) : FI X tg l (iSeq fl) := by
  constructor
  intro pins s σ H R I h
  obtain ⟨ρ, E, o⟩ := h
  have key : Out X H (fl ρ) fun x H1 => ∃ d, Rep X.K H1 d x ∧ OutI X H1 (items d) R := by
    unfold iSeq at o
    match hf : fl ρ, o with
    | some (.exc c), o => exact o
    | some (.ok d), o => exact fun v H1 e r => ⟨d, r, OutI.mono e o⟩
    | none, o => exact o
  refine thn (hl.h pins s σ H _ I ⟨ρ, E, key⟩) fun v s1 ⟨x, H1, I1, r1, d, rd, q⟩ => ?_
  have fin : ∀ (o : Obj) (tn : Nat → Heap → Prop) (J : It) (ds : List Dv), Turn X.prog X.w X.K tg J [s1.heap.objs.size] s1.heap.objs.size tn → tn 0 (s1.heap.push o) → Wk X.K J ds H1 → (∀ J H', Same H1 H' → Wk X.K J ds H' → R J H') →
      PIE X pins σ tg R (.ref s1.heap.objs.size) { s1 with heap := s1.heap.push o } := fun o tn J ds T t0 w q => by
    refine ⟨s1.heap.objs.size, [s1.heap.objs.size], tn, J, H1, rfl, I1.kept (t' := s1.toks) fun b o e => Heap.get?_push_of_some _ e, T, t0, fun b hb => ?_, q J H1 (.refl H1) w⟩
    have e : b = s1.heap.objs.size := by simpa using hb
    subst e
    exact I1.fpOk (Nat.le_refl _) (I1.hok.fresh (Nat.le_refl _))
  cases d with
  | lst ds =>
    obtain ⟨a, xs, rfl, h1, h2⟩ := rd.lstE
    cases r1
    obtain ⟨its, rv, p, hz⟩ := I1.list (SqL.of h1)
    exact wpAny_pyIter_list p.isList (fin _ _ (Itl X.K a) ds (turn_list a _) ⟨_, Heap.get?_push_size _ rfl, rfl, rfl⟩ (wk_list h1 h2) q)
  | tup ds =>
    obtain ⟨a, xs, rfl, h1, h2⟩ := rd.tupE
    cases r1
    obtain ⟨its, rv, p, hz⟩ := I1.tuple (SqT.of h1)
    exact wpAny_pyIter_tuple (show s1.heap.IsTuple a its.toArray from p) (fin _ _ (Itt X.K a) ds (turn_tuple a _) ⟨_, Heap.get?_push_size _ rfl, rfl, rfl⟩ (wk_tup h1 h2) q)
  | str z =>
    cases (show x = .str z from rd)
    obtain ⟨t, rfl⟩ := r1
    have hty : strIterType z = "str_ascii_iterator" ∨ strIterType z = "str_iterator" := by
      unfold strIterType
      split
      · exact .inl rfl
      · exact .inr rfl
    exact wpAny_pyIter_strU (fin _ _ (Its z) (signs z) (turn_str z t _ hty) ⟨_, Heap.get?_push_size _ rfl, rfl, rfl⟩ wk_str q)
  | _ => exact q.elim
def rng1 : List Dv → Option (Rs (List Dv))
  | [.int j] => if -(2 ^ 62) ≤ j ∧ j < 2 ^ 62 then some (.ok (rng 0 j.toNat)) else none
  | _ => none
def rng2 : List Dv → Option (Rs (List Dv))
  | [.int i, .int j] => if -(2 ^ 62) ≤ i ∧ i < 2 ^ 62 ∧ -(2 ^ 62) ≤ j ∧ j < 2 ^ 62 then some (.ok (rng i (j - i).toNat)) else none
  | _ => none
theorem outA_bindI {H : Hp} {R : It → Hp → Prop} {o : Option (Rs (List Dv))} {k : List Dv → Option (Rs (List Dv))} {P : List V → Hp → Prop} (h : OutI X H (bnd o k) R) (hp : ∀ ds vs H', Same H H' → Reps X.K H' ds vs → OutI X H' (k ds) R → P vs H') : OutA X H o P := by
  match o, h with
  | some (.exc _), h => exact h
  | some (.ok d), h => exact fun v H1 e r => hp d v H1 e r (OutI.mono e h)
theorem fi_range1 {ga : FnA} (hg : Gl X "range") (hm : X.mg "range" = none) (ha : FA X [a] ga) (hs : starEach [a] X.env = [(false, eval a X.env)] := by kernel_rfl) : FI X tg (.Call (.Name "range" p) [a] [] pos) (fun ρ => bnd (ga ρ) rng1) := by
  constructor
  intro pins s σ H R I h
  obtain ⟨ρ, E, o⟩ := h
  refine pi_range1 hg hm ha.h hs pins s σ H R I ⟨ρ, E, outA_bindI o fun ds vs H' e rs o1 => ?_⟩
  unfold rng1 at o1
  split at o1
  · rename_i j
    split at o1
    · rename_i hj
      obtain ⟨v, us, rfl, r, t⟩ : ∃ v us, vs = v :: us ∧ Rep X.K H' (.int j) v ∧ Reps X.K H' [] us := rs
      cases (show us = [] from t)
      cases (show v = .int j from r)
      exact ⟨j, rfl, hj.1, hj.2, o1 _ H' (.refl H') wk_range⟩
    · exact o1.elim
  · exact o1.elim
theorem fi_range2 {ga : FnA} (hg : Gl X "range") (hm : X.mg "range" = none) (ha : FA X [a, b] ga) (hs : starEach [a, b] X.env = [(false, eval a X.env), (false, eval b X.env)] := by kernel_rfl) (hs2 : starEach [b] X.env = [(false, eval b X.env)] := by kernel_rfl) :
    FI X tg (.Call (.Name "range" p) [a, b] [] pos) (fun ρ => bnd (ga ρ) rng2) := by
  constructor
  intro pins s σ H R I h
  obtain ⟨ρ, E, o⟩ := h
  refine pi_range2 hg hm ha.h hs hs2 pins s σ H R I ⟨ρ, E, outA_bindI o fun ds vs H' e rs o1 => ?_⟩
  unfold rng2 at o1
  split at o1
  · rename_i i j
    split at o1
    · rename_i hj
      obtain ⟨v, us, rfl, r, t⟩ : ∃ v us, vs = v :: us ∧ Rep X.K H' (.int i) v ∧ Reps X.K H' [.int j] us := rs
      obtain ⟨v2, us2, rfl, r2, t2⟩ : ∃ v us', us = v :: us' ∧ Rep X.K H' (.int j) v ∧ Reps X.K H' [] us' := t
      cases (show us2 = [] from t2)
      cases (show v = .int i from r)
      cases (show v2 = .int j from r2)
      exact ⟨i, j, rfl, hj, o1 _ H' (.refl H') wk_range⟩
    · exact o1.elim
  · exact o1.elim
end
def loopF (i : Nat) (js : List Nat) (body : FnS) : List Dv → Ev → Option Fl
  | [], ρ => some (.nx (fgt js ρ))
  | d :: ds, ρ => match body ((fgt js ρ).set i (some d)) with
    | some (.nx ρ') => loopF i js body ds ρ'
    | o => o
def fFor (i : Nat) (js : List Nat) (src : FnA) (body : FnS) : FnS := fun ρ => bndS (src ρ) fun ds => loopF i js body ds ρ
theorem drop_cons {α : Type} {ds : List α} {i : Nat} {d : α} (h : ds[i]? = some d) : ds.drop i = d :: ds.drop (i + 1) := by
  obtain ⟨hi, e⟩ := List.getElem?_eq_some_iff.mp h
  rw [List.drop_eq_getElem_cons hi, e]
theorem fs_for {X : Cx} {tg iter : Expr} {body : List Stmt} {pos : Pos} {src : FnA} {fb : FnS} (i : Nat) (js : List Nat) (hp : PassesOwn (model X.prog X.w) X.A X.env X.xe) (hc : X.calm = true) (hi : FI X tg iter src) (hg : PG X tg (gName i)) (hb : FSs X body fb)
    (hs : ∀ x, foldedSetIterable iter X.env x = pure x := by intro _; kernel_rfl) : FS X (.For tg iter body [] pos) (fFor i js src fb) := by
  refine fs_of (ps_for hp hc hi.h hg hb.h hs) fun D σ H ρ E o => ⟨ρ, E, ?_⟩
  unfold fFor at o
  match hf : src ρ, o with
  | none, o => exact o
  | some (.exc c), o => exact o
  | some (.ok ds), o =>
    intro J H1 e1 wk
    have o1 : OutS X H1 (loopF i js fb ds ρ) D := OutS.mono e1 o
    refine ⟨fun n m σ' H' => m = ds.length - n ∧ n ≤ ds.length ∧ Same H1 H' ∧ ∃ ρ', Envs X.K H' σ' ρ' ∧ OutS X H' (loopF i js fb (ds.drop n) ρ') D, ⟨ds.length, by simp, Nat.zero_le _, .refl H1, ρ, E.mono e1, by simpa using o1⟩, ?_⟩
    rintro n m σ' H' ⟨rfl, hn, e2, ρ', E', o'⟩
    by_cases hlt : n < ds.length
    · refine .inr ⟨wk.go n H' e2 hlt, fun σ2 H2 => Same H1 H2 ∧ ∃ ρ2, Envs X.K H2 σ2 ρ2 ∧ OutS X H2 (loopF i js fb (ds.drop (n + 1)) ρ2) D, fun σ2 H2 ⟨e3, ρ2, E2, o2⟩ => ⟨ds.length - (n + 1), by omega, rfl, hlt, e3, ρ2, E2, o2⟩, fun x H2 y => ?_⟩
      obtain ⟨rfl, d, hd, rd⟩ := wk.yld n H' x H2 e2 hlt y
      rw [drop_cons hd] at o'
      show tS X fb _ _ _
      refine ⟨(fgt js ρ').set i (some d), (Envs.fgt js E').set rd, ?_⟩
      unfold loopF at o'
      match hb' : fb ((fgt js ρ').set i (some d)) with
      | none => rw [hb'] at o'; exact o'
      | some (.exc c) => rw [hb'] at o'; exact o'
      | some (.rt r) => rw [hb'] at o'; exact o'
      | some (.nx ρ2) => rw [hb'] at o'; exact fun σ2 H3 e3 E3 => ⟨e2.trans e3, ρ2, E3, OutS.mono e3 o'⟩
    · have hn' : n = ds.length := by omega
      subst hn'
      rw [List.drop_length] at o'
      exact .inl ⟨wk.stop H' e2, o' σ' H' (.refl H') (Envs.fgt js E')⟩
def spF (K : PySem.W.Frag) (F : List Dv → Option (Rs Dv)) (n : Nat) : Sp := fun vs H Q _ => ∃ ds, Reps K H ds vs ∧ ds.length = n ∧ match F ds with
  | some (.ok d) => ∀ v H', Same H H' → Rep K H' d v → Q v H'
  | _ => False
def fCall (F : List Dv → Option (Rs Dv)) (n : Nat) (g : FnA) : FnE := fun ρ => bnd (g ρ) fun ds => if ds.length = n then (match F ds with | some (.ok d) => some (.ok d) | _ => none) else none
section
variable {X : Cx} {k n : Nat} {f : Addr} {fd : FuncData} {ps : List Str} {x : Str} {p pos : Pos} {e : Expr} {es : List Expr} {F : List Dv → Option (Rs Dv)} {g : FnA}
theorem fe_call (G : FnOk X.prog X.w X.K X.mg X.base CX0 k f fd ps (spF X.K F n)) (hr : Room k X.A) (hg : Gl X x) (hm : X.mg x = some (.ref f)) (hk : PySem.W.keepIn X.K (.ref f) = true) (hb : Binds X.K fd ps [])
    (ha : FA X (e :: es) g) (hdb : (x == ("__debug__" : Str)) = false := by kernel_rfl) (he : starEach (e :: es) X.env = (false, eval e X.env) :: starEach es X.env := by kernel_rfl) (hpl : (backTo pos (starEach es X.env)).any (·.1) = false := by kernel_rfl) :
    FE X (.Call (.Name x p) (e :: es) [] pos) (fCall F n g) :=
  fe_of (pe_call G hr hg hm hk hb .nil pass0 ha.h hdb he hpl) fun σ H Q ρ E o => ⟨ρ, E, OutA.bind o fun ds vs H' e rs o1 => by
    show spF X.K F n (vs ++ []) H' Q E0
    rw [List.append_nil]
    split at o1
    · rename_i hl
      refine ⟨ds, rs, hl, ?_⟩
      match hF : F ds with
      | some (.ok d) => rw [hF] at o1; exact o1
      | some (.exc c) => rw [hF] at o1; exact o1
      | none => rw [hF] at o1; exact o1
    · exact o1.elim⟩
def Has (P : Program) (w : World) (K : PySem.W.Frag) (mg : Str → Option Value) (base : Heap) (x : Str) (k : Nat) (ps : List Str) (F : List Dv → Option (Rs Dv)) : Prop :=
  ∃ f fd, FnOk P w K mg base CX0 k f fd ps (spF K F ps.length) ∧ mg x = some (.ref f) ∧ PySem.W.keepIn K (.ref f) = true ∧ Binds K fd ps []
theorem fe_callH {k' : Nat} (k : Nat) (ps : List Str) (F : List Dv → Option (Rs Dv)) (h : Has X.prog X.w X.K X.mg X.base x k ps F) (hr : Room k' X.A) (hk : k ≤ k') (hg : Gl X x) (ha : FA X (e :: es) g) (hn : n = ps.length := by kernel_rfl) (hdb : (x == ("__debug__" : Str)) = false := by kernel_rfl)
    (he : starEach (e :: es) X.env = (false, eval e X.env) :: starEach es X.env := by kernel_rfl) (hpl : (backTo pos (starEach es X.env)).any (·.1) = false := by kernel_rfl) :
    FE X (.Call (.Name x p) (e :: es) [] pos) (fCall F n g) := by
  subst hn
  obtain ⟨f, fd, G, hm, hkp, hb⟩ := h
  exact fe_call (G.mono hk) hr hg hm hkp hb ha hdb he hpl
def runF (m : Nat) (fb : FnS) : List Dv → Option (Rs Dv) := fun ds => match fb (ds.map some ++ List.replicate (m - ds.length) none) with
  | some (.nx _) => some (.ok .non)
  | some (.rt d) => some (.ok d)
  | _ => none
theorem envs_start {K : PySem.W.Frag} {H : Hp} {N : List Str} {ds : List Dv} {vs : List V} (r : Reps K H ds vs) : Envs K H (L2.start N vs) (ds.map some ++ List.replicate (N.length - ds.length) none) := by
  have hl := r.length
  refine ⟨by unfold L2.start; rw [List.length_append, List.length_append, List.length_map, List.length_map, List.length_replicate, List.length_replicate, hl], fun i d h => ?_⟩
  by_cases hi : i < ds.length
  · rw [List.getElem?_append_left (by simpa using hi), List.getElem?_map] at h
    cases hd : ds[i]? with
    | none => rw [hd] at h; cases h
    | some d' =>
      rw [hd] at h
      have h' : some (some d') = some (some d) := h
      injection h' with h'
      injection h' with h'
      subst h'
      obtain ⟨v, h1, h2⟩ := r.get' hd
      refine ⟨v, ?_, h2⟩
      unfold L2.start
      rw [List.getElem?_append_left (by rw [List.length_map, hl]; exact hi), List.getElem?_map, h1] <;> rfl
  · rw [List.getElem?_append_right (by simpa using hi), List.getElem?_replicate] at h
    split at h <;> cases h
theorem fn_ok {P : Program} {w : World} {K : PySem.W.Frag} {mg : Str → Option Value} {base : Heap} {qual : Str} {st : Stmt} {N : List Str} {fb : FnS} (Fn : Fun K x qual st f fd) (S : FnScope N ps (defScope st))
    (hb : ∀ (cdv : Value) (A : Around) (outer : List Env) (s : Shared) (H : Hp) (E : XK), Room k (A.deeper (envOfC qual (defScope st) s.heap.objs.size f cdv)) → FSs (cxOf CX0 P w K mg base N qual (defScope st) f cdv A outer s H E).nox (defBody st) fb) :
    FnOk P w K mg base CX0 (k + 1) f fd ps (spF K (runF N.length fb) ps.length) := by
  refine Fn.ok S (fun vs H Q E h => ?_) (fun cdv A outer s H vs Q E hr h => ?_)
  · obtain ⟨ds, r, hl, _⟩ := h
    rw [r.length, hl]
  · obtain ⟨ds, r, hl, q⟩ := h
    refine ⟨_, (hb cdv A outer s H E hr).h, ds.map some ++ List.replicate (N.length - ds.length) none, envs_start r, ?_⟩
    unfold runF at q
    match hf : fb (ds.map some ++ List.replicate (N.length - ds.length) none) with
    | none => rw [hf] at q; exact q.elim
    | some (.exc c) => rw [hf] at q; exact q.elim
    | some (.rt d) => rw [hf] at q; exact fun v H' e r' => q v H' e r'
    | some (.nx ρ) => rw [hf] at q; exact fun σ' H' e _ => q .non H' e rfl
end
theorem fn_ok2 {k : Nat} {f : Addr} {fd : FuncData} {x : Str} {P : Program} {w : World} {K : PySem.W.Frag} {mg : Str → Option Value} {base : Heap} {qual : Str} {st : Stmt} {F : List Dv → Option (Rs Dv)} {n : Nat} (N ps : List Str) (fb : FnS) (hF : F = runF N.length fb) (hn : n = ps.length)
    (Fn : Fun K x qual st f fd) (S : FnScope N ps (defScope st))
    (hb : ∀ (cdv : Value) (A : Around) (outer : List Env) (s : Shared) (H : Hp) (E : XK), Room k (A.deeper (envOfC qual (defScope st) s.heap.objs.size f cdv)) → FSs (cxOf CX0 P w K mg base N qual (defScope st) f cdv A outer s H E).nox (defBody st) fb) :
    FnOk P w K mg base CX0 (k + 1) f fd ps (spF K F n) := by
  subst hF hn
  exact fn_ok Fn S hb
end FD
namespace FD
open PySem PySem.Spec PyProof.Rows L2
def clOf (names : List (Str × NameKind)) (env : Env) (acc : List (Str × Addr)) : List (Str × Addr) := match names with
  | [] => acc
  | (n, k) :: r => clOf r env (if k == .free then (n, (env.cells.lookup n).getD 0) :: acc else acc)
theorem clOf_sound {env : Env} {n : Str} {c : Addr} : ∀ (names : List (Str × NameKind)) (acc : List (Str × Addr)), (clOf names env acc).lookup n = some c → acc.lookup n = some c ∨ ((n, NameKind.free) ∈ names ∧ c = (env.cells.lookup n).getD 0)
  | [], acc, h => .inl h
  | (m, k) :: r, acc, h => by
    rcases clOf_sound r _ h with q | ⟨q1, q2⟩
    · by_cases hk : k = .free
      · subst hk
        simp only [beq_self_eq_true, if_true] at q
        rw [List.lookup_cons] at q
        cases hm : n == m with
        | true =>
          rw [hm] at q
          have e : n = m := by simpa using hm
          subst e
          exact .inr ⟨List.mem_cons_self, (Option.some.inj q).symm⟩
        | false => rw [hm] at q; exact .inl q
      · have hb : (k == NameKind.free) = false := by simpa using hk
        rw [hb] at q
        exact .inl (by simpa using q)
    · exact .inr ⟨List.mem_cons_of_mem _ q1, q2⟩
theorem clOf_keep {env : Env} {n : Str} : ∀ (names : List (Str × NameKind)) (acc : List (Str × Addr)), (acc.lookup n).isSome = true → ((clOf names env acc).lookup n).isSome = true
  | [], acc, h => h
  | (m, k) :: r, acc, h => by
    refine clOf_keep r _ ?_
    split
    · rw [List.lookup_cons]
      cases n == m with
      | true => rfl
      | false => exact h
    · exact h
theorem clOf_has {env : Env} {n : Str} : ∀ (names : List (Str × NameKind)) (acc : List (Str × Addr)), (n, NameKind.free) ∈ names → ((clOf names env acc).lookup n).isSome = true
  | [], acc, h => by cases h
  | (m, k) :: r, acc, h => by
    rcases List.mem_cons.mp h with e | q
    · injection e with e1 e2
      subst e1
      subst e2
      refine clOf_keep r _ ?_
      simp only [beq_self_eq_true, if_true, List.lookup_cons]
      rfl
    · exact clOf_has r _ q
theorem lookup_mem {β : Type} {n : Str} {k : β} : ∀ {l : List (Str × β)}, l.lookup n = some k → (n, k) ∈ l
  | [], h => by simp at h
  | (m, j) :: r, h => by
    rw [List.lookup_cons] at h
    cases hm : n == m with
    | true =>
      rw [hm] at h
      have e : n = m := by simpa using hm
      subst e
      have e2 : j = k := Option.some.inj h
      subst e2
      exact List.mem_cons_self
    | false => rw [hm] at h; exact List.mem_cons_of_mem _ (lookup_mem h)
def compCx (X : Cx) (N : List Str) (scope : Scope) (C : Addr) (s : Shared) (H : Hp) (fp : List Addr) : Cx :=
  { X with N := N, s₀ := s, H₀ := H, env := compEnvC scope (clOf scope.names X.env []) C X.env, outer := X.stack, stack := X.stack, ex := fp, fn := fun _ => false, pn := [], xe := fun _ _ => False }
structure CompOk (osc scope : Scope) (x : Str) (cs : List (Str × Nat)) (N : List Str) : Prop where
  kind : scope.kind = .function
  okind : osc.kind = .function
  cell : ∀ y ∈ scope.names, y.2 ≠ .cell
  names : ∀ y ∈ scope.names, y.2 = .local → scope.names.lookup y.1 = some .local
  tgt : scope.names.lookup x = some .local
  nd : (x :: cs.map (·.1)).Nodup
  free : ∀ y ∈ scope.names, y.2 = .free → osc.names.lookup y.1 = some .cell ∨ osc.names.lookup y.1 = some .free
  caps : ∀ c ∈ cs, N[c.2]? = some c.1 ∧ scope.names.lookup c.1 = some .free
theorem relabel_kind {scope : Scope} {env : Env} {n : Str} {k : NameKind} (h : (relabel scope env).names.lookup n = some k) : (n, k) ∈ scope.names ∨ (k = .cell ∧ (n, NameKind.free) ∈ scope.names) := by
  have q := lookup_mem h
  unfold relabel at q
  obtain ⟨⟨m, j⟩, hm, e⟩ := List.mem_map.mp q
  dsimp only at e
  split at e
  · rename_i hc
    injection e with e1 e2
    subst e1
    have hj : j = .free := by
      rw [Bool.and_eq_true, Bool.and_eq_true] at hc
      simpa using hc.1.1
    subst hj
    exact .inr ⟨e2.symm, hm⟩
  · injection e with e1 e2
    subst e1
    subst e2
    exact .inl hm
theorem relabel_free {env : Env} : ∀ {names : List (Str × NameKind)} {n : Str}, names.lookup n = some .free →
    (names.map fun (n, k) => if (k == NameKind.free && env.scope.kind == .function && env.kindOf n == some .cell) then (n, NameKind.cell) else (n, k)).lookup n = some .cell ∨
    (names.map fun (n, k) => if (k == NameKind.free && env.scope.kind == .function && env.kindOf n == some .cell) then (n, NameKind.cell) else (n, k)).lookup n = some .free
  | [], _, h => by simp at h
  | (m, k) :: r, n, h => by
    have ih := @relabel_free env r n
    rw [List.lookup_cons] at h
    rw [List.map_cons]
    cases hm : n == m with
    | true =>
      rw [hm] at h
      have e2 : k = .free := Option.some.inj h
      subst e2
      by_cases hc : (NameKind.free == NameKind.free && env.scope.kind == .function && env.kindOf m == some .cell) = true
      · dsimp only
        rw [if_pos hc, List.lookup_cons, hm]
        exact .inl rfl
      · dsimp only
        rw [if_neg hc, List.lookup_cons, hm]
        exact .inr rfl
    | false =>
      rw [hm] at h
      dsimp only
      by_cases hc : (k == NameKind.free && env.scope.kind == .function && env.kindOf m == some .cell) = true
      · rw [if_pos hc, List.lookup_cons, hm]; exact ih h
      · rw [if_neg hc, List.lookup_cons, hm]; exact ih h
def capE (cs : List (Str × Nat)) (ρ : Ev) : Ev := none :: cs.map fun c => (ρ[c.2]?).join
section
variable {X : Cx} {pins : List (Addr × Obj)} {σ : L2.St} {H : Hp} {s : Shared}
end
def mapF (tst : Option FnB) (elt : FnE) (cap : Ev) : List Dv → Option (List Dv)
  | [] => some []
  | d :: ds =>
    let ρ := cap.set 0 (some d)
    match (match tst with | none => (some (.ok true) : Option (Rs Bool)) | some t => t ρ) with
    | some (.ok true) => (match elt ρ with
      | some (.ok y) => (match mapF tst elt cap ds with | some ys => some (y :: ys) | none => none)
      | _ => none)
    | some (.ok false) => mapF tst elt cap ds
    | _ => none
def fComp (cs : List (Str × Nat)) (src : FnA) (tst : Option FnB) (elt : FnE) : FnE := fun ρ => bnd (src ρ) fun ds => match mapF tst elt (capE cs ρ) ds with
  | some ys => if ys.length ≤ 100000 ∧ ds.length ≤ 100000 then some (.ok (.lst ys)) else none
  | none => none
def LAt (h : Heap) (D : Addr) (its : List Value) : Prop := ∃ n, h.get? D = some { cls := .type "list", data := .seq its.toArray n }
theorem lat_append {P : Program} {w : World} {A : Around} {E : Value → Shared → Prop} {s : Shared} {D : Addr} {its : List Value} {u : Value} {Q : Value → Shared → Prop} (h : LAt s.heap D its) (hz : its.length ≤ 100000)
    (hQ : ∀ h', LAt h' D (its ++ [u]) → (∀ b o, b ≠ D → s.heap.get? b = some o → h'.get? b = some o) → Q .none { s with heap := h' }) : wpAny (model P w) A (call (.builtin "list.append") [.ref D, u]) Q E s := by
  obtain ⟨n, e⟩ := h
  refine call_meets F.slot_list_append ⟨_, e, rfl⟩ F.entry_list_append (F.args_list_append_2 _ _) (PySem.list_append D its.toArray n u (by rw [List.size_toArray]; exact le_line hz)) ⟨e, ?_⟩
  have q := PySem.IsL.update e (·.push u)
  have e2 : its.toArray.push u = (its ++ [u]).toArray := by simp
  rw [e2] at q
  exact hQ _ ⟨_, q⟩ fun b o hb ho => (Heap.get?_update_other s.heap _ (Ne.symm hb)).trans ho
def FIfs (X : Cx) (ifs : List Expr) (tst : Option FnB) : Prop := match tst with
  | none => ifs = []
  | some t => ∃ c, ifs = [c] ∧ FT X c t
theorem HOk.add {P : Program} {w : World} {H : Hp} {h h' : Heap} {D C : Addr} {o : HO} (x : HOk P w H h) (hD : H D = none) (hC : H C = none) (k : ∀ b u, b ≠ C → h.get? b = some u → h'.get? b = some u) (new : ObjOk P w (upd H D o) h' D o) : HOk P w (upd H D o) h' := fun b u e => by
  by_cases hb : b = D
  · subst hb; rw [upd_same] at e; cases e; exact new
  · rw [upd_ne hb] at e
    refine (x b u e).stay (fun c v hc q => k c v ?_ q) (fun c q => by rw [upd_ne (ne_of_none q hD)]; exact q) fun c xs q => by rw [upd_ne (ne_of_none q hD)]; exact q
    rcases hc with rfl | hc
    · exact ne_of_none e hC
    · exact ne_of_none hc hC
theorem ad_ne {b D : Nat} (h : b < D) : b ≠ D := by omega
theorem ad_ne1 {b D : Nat} (h : b < D) : b ≠ D + 1 := by omega
theorem ad_s {D : Nat} : D ≠ D + 1 := by omega
end FD
namespace FD
open PySem PySem.Spec PyProof.Rows L2
section
variable {X : Cx}
def addD : Dv → Dv → Option (Rs Dv)
  | .int i, .int j => some (.ok (.int (i + j)))
  | .str x, .str y => if x.length + y.length ≤ 100000 then some (.ok (.str (x ++ y))) else none
  | .lst a, .lst b => if a.length + b.length ≤ 100000 then some (.ok (.lst (a ++ b))) else none
  | _, _ => none
def rAdd3 : R2 := fun x y H Q => rI0 (fun i j => .int (i + j)) x y H Q ∨ ((∃ i j, x = .str i ∧ y = .str j ∧ i.length + j.length ≤ sizeLine ∧ Q (.str (i ++ j)) H) ∨ rCat x y H Q)
theorem o_add : OpR X (binaryOp .Add) rAdd3 := op_add.or (op_add_str.or op_cat)
theorem g_add : GOp X rAdd3 addD := by
  intro dx dy x y H Q rx ry o
  cases dx <;> cases dy <;> try exact (show False from o).elim
  · rename_i i j
    exact .inl ⟨i, j, rx, ry, o _ H (.refl H) rfl⟩
  · rename_i i j
    simp only [addD] at o
    split at o
    · rename_i hl
      exact .inr (.inl ⟨i, j, rx, ry, le_line hl, o _ H (.refl H) rfl⟩)
    · exact o.elim
  · rename_i a b
    simp only [addD] at o
    split at o
    · rename_i hl
      obtain ⟨p, xs, rfl, h1, q1⟩ := rx.lstE
      obtain ⟨p2, xs2, rfl, h2, q2⟩ := ry.lstE
      refine .inr (.inr ⟨p, p2, xs, xs2, rfl, rfl, h1, h2, by rw [q1.length, q2.length]; exact le_line hl, fun l hl => o _ _ (same_new hl _) ⟨l, _, rfl, upd_same, Reps.mono (same_new hl _) _ _ (q1.append q2)⟩⟩)
    · exact o.elim
def subD : Dv → Dv → Option (Rs Dv)
  | .int i, .int j => some (.ok (.int (i - j)))
  | _, _ => none
theorem g_sub : GOp X (rI0 fun i j => .int (i - j)) subD := by
  intro dx dy x y H Q rx ry o
  cases dx <;> cases dy <;> try exact (show False from o).elim
  rename_i i j
  exact ⟨i, j, rx, ry, o _ H (.refl H) rfl⟩
def mulD : Dv → Dv → Option (Rs Dv)
  | .int i, .int j => if (-18446744073709551616 < i ∧ i < 18446744073709551616) ∨ (-18446744073709551616 < j ∧ j < 18446744073709551616) then some (.ok (.int (i * j))) else none
  | _, _ => none
theorem g_mul : GOp X (rI CMul fun i j => .int (i * j)) mulD := by
  intro dx dy x y H Q rx ry o
  cases dx <;> cases dy <;> try exact (show False from o).elim
  rename_i i j
  simp only [mulD] at o
  split at o
  · rename_i h
    exact ⟨i, j, rx, ry, h, o _ H (.refl H) rfl⟩
  · exact o.elim
def modD : Dv → Dv → Option (Rs Dv)
  | .int i, .int j => if 0 < j then some (.ok (.int (i % j))) else none
  | _, _ => none
theorem g_mod : GOp X (rI (fun _ j => 0 < j) fun i j => .int (i % j)) modD := by
  intro dx dy x y H Q rx ry o
  cases dx <;> cases dy <;> try exact (show False from o).elim
  rename_i i j
  simp only [modD] at o
  split at o
  · rename_i h
    exact ⟨i, j, rx, ry, h, o _ H (.refl H) rfl⟩
  · exact o.elim
def fdivD : Dv → Dv → Option (Rs Dv)
  | .int i, .int j => if 0 < j ∧ j < 1073741824 then some (.ok (.int (i / j))) else none
  | _, _ => none
theorem g_fdiv : GOp X (rI CDiv fun i j => .int (i / j)) fdivD := by
  intro dx dy x y H Q rx ry o
  cases dx <;> cases dy <;> try exact (show False from o).elim
  rename_i i j
  simp only [fdivD] at o
  split at o
  · rename_i h
    exact ⟨i, j, rx, ry, h, o _ H (.refl H) rfl⟩
  · exact o.elim
def negD : Dv → Option (Rs Dv)
  | .int i => some (.ok (.int (-i)))
  | _ => none
def f1 (g : Dv → Option (Rs Dv)) (fa : FnE) : FnE := fun ρ => bnd (fa ρ) g
theorem fe_neg {a : Expr} {fa : FnE} {pos : Pos} (ha : FE X a fa) : FE X (.UnaryOp .USub a pos) (f1 negD fa) :=
  fe_of (pe_un un_neg ha.h) fun σ H Q ρ E o => ⟨ρ, E, Out.bind o fun d v H1 e r o1 => by
    cases d <;> try exact (show False from o1).elim
    rename_i i
    exact ⟨i, r, o1 _ H1 (.refl H1) rfl⟩⟩
def seq (x y : Str) : Bool := x.cps.toList == y.cps.toList
theorem seq_eq (x y : Str) : (x == y) = seq x y := by
  rw [Bool.eq_iff_iff]
  unfold seq
  obtain ⟨⟨a⟩⟩ := x
  obtain ⟨⟨b⟩⟩ := y
  simp
def eqS : Dv → Dv → Option Bool
  | .non, .non => some true
  | .non, .int _ => some false
  | .int _, .non => some false
  | .non, .bl _ => some false
  | .bl _, .non => some false
  | .non, .str _ => some false
  | .str _, .non => some false
  | .int i, .int j => some (i == j)
  | .bl i, .bl j => some (i == j)
  | .str i, .str j => some (seq i j)
  | .int _, .str _ => some false
  | .str _, .int _ => some false
  | .bl _, .str _ => some false
  | .str _, .bl _ => some false
  | _, _ => none
theorem eqS_ok {K : PySem.W.Frag} {H : Hp} {dx dy : Dv} {x y : V} {b : Bool} (rx : Rep K H dx x) (ry : Rep K H dy y) (h : eqS dx dy = some b) : scal x y = true ∧ decide (x = y) = b := by
  cases dx <;> cases dy <;> (try cases h) <;> (try (cases rx; cases ry; exact ⟨rfl, by first | rfl | exact dec_int | exact dec_bl | (rw [dec_str, seq_eq]) | simp⟩))
def cmpD (p : Int → Int → Bool) : Dv → Dv → Option (Rs Dv)
  | .int i, .int j => some (.ok (.bl (p i j)))
  | _, _ => none
theorem g_cmp (p : Int → Int → Bool) : GOp X (rI0 fun i j => .bl (p i j)) (cmpD p) := by
  intro dx dy x y H Q rx ry o
  cases dx <;> cases dy <;> try exact (show False from o).elim
  rename_i i j
  exact ⟨i, j, rx, ry, o _ H (.refl H) rfl⟩
abbrev gtD := cmpD fun i j => decide (j < i)
def isN : Dv → Dv → Option (Rs Dv)
  | x, .non => some (.ok (.bl (match x with | .non => true | _ => false)))
  | _, _ => none
def notN : Dv → Dv → Option (Rs Dv)
  | x, .non => some (.ok (.bl (match x with | .non => false | _ => true)))
  | _, _ => none
theorem dec_non {K : PySem.W.Frag} {H : Hp} {d : Dv} {v : V} (r : Rep K H d v) : decide (v = .non) = (match d with | .non => true | _ => false) := by
  cases d with
  | non => cases (show v = .non from r); rfl
  | bl b => cases (show v = .bl b from r); rfl
  | int b => cases (show v = .int b from r); rfl
  | str b => cases (show v = .str b from r); rfl
  | tup ds => obtain ⟨a, xs, rfl, _⟩ := r.tupE; rfl
  | lst ds => obtain ⟨a, xs, rfl, _⟩ := r.lstE; rfl
  | scr ds => obtain ⟨a, rfl, _⟩ := r.scrE; rfl
  | exn c =>
    obtain ⟨a, _, _, _, rfl, _⟩ := r.exnE
    rfl
theorem g_isN : GOp X (fun x y H Q => y = .non ∧ Q (.bl (decide (x = .non))) H) isN := by
  intro dx dy x y H Q rx ry o
  cases dy <;> try exact (show False from o).elim
  have q := dec_non rx
  refine ⟨ry, ?_⟩
  have q2 := o _ H (.refl H) rfl
  cases dx <;> (rw [q]; exact q2)
theorem g_notN : GOp X (fun x y H Q => y = .non ∧ Q (.bl (!decide (x = .non))) H) notN := by
  intro dx dy x y H Q rx ry o
  cases dy <;> try exact (show False from o).elim
  have q := dec_non rx
  refine ⟨ry, ?_⟩
  have q2 := o _ H (.refl H) rfl
  cases dx <;> (rw [q]; exact q2)
def inS (x y : Str) : Bool := !(Builtin.Str.occurrences y x 0 y.length 1).isEmpty
def flatD : Dv → Bool
  | .non => true
  | .bl _ => true
  | .int _ => true
  | .str _ => true
  | _ => false
def eqF : Dv → Dv → Bool
  | .non, .non => true
  | .bl a, .bl b => a == b
  | .bl a, .int b => (if a then 1 else 0) == b
  | .int a, .bl b => a == (if b then 1 else 0)
  | .int a, .int b => a == b
  | .str a, .str b => seq a b
  | _, _ => false
def inL (x : Dv) (ys : List Dv) : Option Bool := if flatD x && ys.all flatD then some (ys.any fun y => eqF y x) else none
def inD0 : Dv → Dv → Option Bool
  | .str x, .str y => some (inS x y)
  | x, .lst ys => inL x ys
  | x, .tup ys => inL x ys
  | _, _ => none
def inD (x y : Dv) : Option (Rs Dv) := match inD0 x y with
  | some b => some (.ok (.bl b))
  | none => none
def notInD (x y : Dv) : Option (Rs Dv) := match inD0 x y with
  | some b => some (.ok (.bl (!b)))
  | none => none
theorem flat_ok {K : PySem.W.Frag} {H : Hp} {d : Dv} {v : V} (r : Rep K H d v) (h : flatD d = true) : flatV v = true := by
  cases d <;> first | (cases h; done) | (cases r; rfl)
theorem flats_ok {K : PySem.W.Frag} {H : Hp} : ∀ {ds : List Dv} {vs : List V}, Reps K H ds vs → ds.all flatD = true → vs.all flatV = true
  | [], vs, r, _ => by cases (show vs = [] from r); rfl
  | d :: ds, vs, r, h => by
    obtain ⟨v, us, rfl, r1, r2⟩ : ∃ v us, vs = v :: us ∧ Rep K H d v ∧ Reps K H ds us := r
    rw [List.all_cons, Bool.and_eq_true] at h
    rw [List.all_cons, Bool.and_eq_true]
    exact ⟨flat_ok r1 h.1, flats_ok r2 h.2⟩
theorem eqF_ok {K : PySem.W.Frag} {H : Hp} {d e : Dv} {v u : V} (r : Rep K H d v) (q : Rep K H e u) (h : flatD d = true) (h' : flatD e = true) : eqV v u = eqF d e := by
  cases d <;> first | (cases h; done) | (cases r; cases e <;> first | (cases h'; done) | (cases q; first | rfl | exact seq_eq _ _))
theorem any_ok {K : PySem.W.Frag} {H : Hp} {e : Dv} {u : V} (q : Rep K H e u) (h' : flatD e = true) : ∀ {ds : List Dv} {vs : List V}, Reps K H ds vs → ds.all flatD = true → (vs.any fun y => eqV y u) = ds.any fun y => eqF y e
  | [], vs, r, _ => by cases (show vs = [] from r); rfl
  | d :: ds, vs, r, h => by
    obtain ⟨v, us, rfl, r1, r2⟩ : ∃ v us, vs = v :: us ∧ Rep K H d v ∧ Reps K H ds us := r
    rw [List.all_cons, Bool.and_eq_true] at h
    rw [List.any_cons, List.any_cons, eqF_ok r1 q h.1 h', any_ok q h' r2 h.2]
theorem inL_ok {K : PySem.W.Frag} {H : Hp} {dx : Dv} {ys : List Dv} {x : V} {vs : List V} {b : Bool} (rx : Rep K H dx x) (ry : Reps K H ys vs) (h : inL dx ys = some b) : flatV x = true ∧ vs.all flatV = true ∧ inV x vs = b := by
  unfold inL at h
  split at h
  · rename_i hc
    rw [Bool.and_eq_true] at hc
    cases h
    exact ⟨flat_ok rx hc.1, flats_ok ry hc.2, any_ok rx hc.1 ry hc.2⟩
  · cases h
def rIn2 (K : PySem.W.Frag) : R2 := fun x y H Q => (∃ i j, x = .str i ∧ y = .str j ∧ Q (.bl (!(Builtin.Str.occurrences j i 0 j.length 1).isEmpty)) H) ∨ rIn K false x y H Q
def rNotIn2 (K : PySem.W.Frag) : R2 := fun x y H Q => (∃ i j, x = .str i ∧ y = .str j ∧ Q (.bl (!(!(Builtin.Str.occurrences j i 0 j.length 1).isEmpty))) H) ∨ rIn K true x y H Q
theorem o_in : OpR X (compareOp .In) (rIn2 X.K) := op_in_str.or op_in_seq
theorem o_notIn : OpR X (compareOp .NotIn) (rNotIn2 X.K) := op_notIn_str.or op_notIn_seq
theorem g_in : GOp X (rIn2 X.K) inD := by
  intro dx dy x y H Q rx ry o
  unfold inD at o
  split at o
  · rename_i b hb
    have q := o _ H (.refl H) rfl
    cases dy <;> try (cases dx <;> cases hb; done)
    · rename_i z
      cases dx <;> try (cases hb; done)
      rename_i z'
      cases hb
      exact .inl ⟨z', z, rx, ry, q⟩
    · rename_i ys
      have hb' : inL dx ys = some b := by cases dx <;> exact hb
      obtain ⟨a, vs, rfl, h1, h2⟩ := ry.tupE
      obtain ⟨f1, f2, f3⟩ := inL_ok rx h2 hb'
      exact .inr ⟨a, vs, rfl, .inr (SqT.of h1), f1, f2, by rw [if_neg Bool.false_ne_true, f3]; exact q⟩
    · rename_i ys
      have hb' : inL dx ys = some b := by cases dx <;> exact hb
      obtain ⟨a, vs, rfl, h1, h2⟩ := ry.lstE
      obtain ⟨f1, f2, f3⟩ := inL_ok rx h2 hb'
      exact .inr ⟨a, vs, rfl, .inl (SqL.of h1), f1, f2, by rw [if_neg Bool.false_ne_true, f3]; exact q⟩
  · exact o.elim
theorem g_notIn : GOp X (rNotIn2 X.K) notInD := by
  intro dx dy x y H Q rx ry o
  unfold notInD at o
  split at o
  · rename_i b hb
    have q := o _ H (.refl H) rfl
    cases dy <;> try (cases dx <;> cases hb; done)
    · rename_i z
      cases dx <;> try (cases hb; done)
      rename_i z'
      cases hb
      exact .inl ⟨z', z, rx, ry, q⟩
    · rename_i ys
      have hb' : inL dx ys = some b := by cases dx <;> exact hb
      obtain ⟨a, vs, rfl, h1, h2⟩ := ry.tupE
      obtain ⟨f1, f2, f3⟩ := inL_ok rx h2 hb'
      exact .inr ⟨a, vs, rfl, .inr (SqT.of h1), f1, f2, by rw [if_pos rfl, f3]; exact q⟩
    · rename_i ys
      have hb' : inL dx ys = some b := by cases dx <;> exact hb
      obtain ⟨a, vs, rfl, h1, h2⟩ := ry.lstE
      obtain ⟨f1, f2, f3⟩ := inL_ok rx h2 hb'
      exact .inr ⟨a, vs, rfl, .inl (SqL.of h1), f1, f2, by rw [if_pos rfl, f3]; exact q⟩
  · exact o.elim
def atD {α : Type} (xs : List α) (i : Int) : Option α := if 0 ≤ i then xs[i.toNat]? else if -(xs.length : Int) ≤ i then xs[(i + xs.length).toNat]? else none
theorem atD_atI {α : Type} {xs : List α} {i : Int} {v : α} (h : atD xs i = some v) : atI xs i = some v := by
  unfold atD at h
  unfold atI ixN
  split at h
  · rename_i h0
    have hl : i.toNat < xs.length := by
      obtain ⟨q, _⟩ := List.getElem?_eq_some_iff.mp h
      exact q
    rw [if_pos h0, if_pos (by omega)]
    exact h
  · rename_i h0
    split at h
    · rename_i h1
      rw [if_neg h0, if_pos h1]
      exact h
    · cases h
def ixD : Dv → Dv → Option (Rs Dv)
  | .lst xs, .int i => (match atD xs i with | some d => some (.ok d) | none => none)
  | .tup xs, .int i => (match atD xs i with | some d => some (.ok d) | none => none)
  | .str z, .int i => if z.length ≤ 100000 then (match atD z.cps.toList i with | some c => some (.ok (.str ⟨#[c]⟩)) | none => none) else none
  | .scr ns, .int i => (match atD ns i with | some d => some (.ok (.int d)) | none => none)
  | _, _ => none
theorem atD_len {α β : Type} {xs : List α} {ys : List β} (h : ys.length = xs.length) {i : Int} {x : α} (e : atD xs i = some x) : ∃ j : Nat, xs[j]? = some x ∧ ∀ y, ys[j]? = some y → atD ys i = some y := by
  unfold atD at e
  split at e
  · rename_i h0
    exact ⟨_, e, fun y q => by unfold atD; rw [if_pos h0]; exact q⟩
  · rename_i h0
    split at e
    · rename_i h1
      exact ⟨_, e, fun y q => by unfold atD; rw [if_neg h0, h, if_pos h1]; exact q⟩
    · cases e
theorem g_ix : GOp X (rIx X.K) ixD := by
  intro dx dy x y H Q rx ry o
  cases dx <;> cases dy <;> try exact (show False from o).elim
  · rename_i z i
    simp only [ixD] at o
    split at o
    · rename_i hl
      split at o
      · rename_i c hc
        exact .inr (.inr ⟨z, i, c, rx, ry, le_line hl, atD_atI hc, o _ H (.refl H) rfl⟩)
      · exact o.elim
    · exact o.elim
  · rename_i ds i
    simp only [ixD] at o
    split at o
    · rename_i d hd
      obtain ⟨a, xs, rfl, h1, h2⟩ := rx.tupE
      obtain ⟨j, e1, e2⟩ := atD_len h2.length hd
      obtain ⟨v, e3, r3⟩ := h2.get' e1
      exact .inr (.inl ⟨a, xs, i, v, rfl, ry, SqT.of h1, atD_atI (e2 v e3), o v H (.refl H) r3⟩)
    · exact o.elim
  · rename_i ds i
    simp only [ixD] at o
    split at o
    · rename_i d hd
      obtain ⟨a, xs, rfl, h1, h2⟩ := rx.lstE
      obtain ⟨j, e1, e2⟩ := atD_len h2.length hd
      obtain ⟨v, e3, r3⟩ := h2.get' e1
      exact .inl ⟨a, xs, i, v, rfl, ry, SqL.of h1, atD_atI (e2 v e3), o v H (.refl H) r3⟩
    · exact o.elim
  · rename_i ns i
    simp only [ixD] at o
    split at o
    · rename_i d hd
      obtain ⟨a, rfl, h1⟩ := rx.scrE
      obtain ⟨j, e1, e2⟩ := atD_len (ys := ns.map V.int) (by simp) hd
      exact .inl ⟨a, _, i, .int d, rfl, ry, h1, atD_atI (e2 _ (by rw [List.getElem?_map, e1] <;> rfl)), o _ H (.refl H) rfl⟩
    · exact o.elim
theorem fe_ix {a b : Expr} {fa fb : FnE} {pos : Pos} (ha : FE X a fa) (hb : FE X b fb) (hs : PlainIx b := by intro _ _; kernel_rfl) : FE X (.Subscript a b pos) (f2 ixD fa fb) :=
  fe_of (pe_ix ix_seq ha.h hb.h hs) fun _ _ _ _ E o => two g_ix E o
abbrev FnO := Ev → Option (Rs (Option Int))
def OutO (X : Cx) (H : Hp) (o : Option (Rs (Option Int))) (Q : Option Int → Hp → Prop) : Prop := match o with
  | none => False
  | some (.exc c) => XW X c H
  | some (.ok d) => ∀ H', Same H H' → Q d H'
theorem OutO.mono {H H' : Hp} {Q : Option Int → Hp → Prop} (e : Same H H') : ∀ {o : Option (Rs (Option Int))}, OutO X H o Q → OutO X H' o Q
  | none, h => h
  | some (.exc _), h => XW.mono h e
  | some (.ok _), h => fun H1 e1 => h H1 (e.trans e1)
structure FO (X : Cx) (e : Option Expr) (f : FnO) : Prop where
  h : PO X e fun σ H Q => ∃ ρ, Envs X.K H σ ρ ∧ OutO X H (f ρ) Q
def oNone : FnO := fun _ => some (.ok none)
def toI : Dv → Option (Rs (Option Int))
  | .int i => some (.ok (some i))
  | _ => none
def oSome (f : FnE) : FnO := fun ρ => bnd (f ρ) toI
theorem fo_none : FO X none oNone := ⟨fun pins s σ H Q I ⟨_, _, o⟩ => po_none pins s σ H Q I (o H (.refl H))⟩
theorem fo_some {e : Expr} {fa : FnE} (h : FE X e fa) : FO X (some e) (oSome fa) := ⟨fun pins s σ H Q I ⟨ρ, E, o⟩ => po_some h.h pins s σ H Q I ⟨ρ, E, by
  unfold oSome at o
  match hf : fa ρ, o with
  | none, o => exact o
  | some (.exc c), o => exact o
  | some (.ok d), o =>
    intro v H' e r
    cases d <;> try exact (show False from o).elim
    rename_i i
    exact ⟨i, r, o H' e⟩⟩⟩
def cutL {α : Type} (xs : List α) (lo hi : Option Int) : List α := (xs.drop (HT.sIx xs.length 0 lo)).take (HT.sIx xs.length xs.length hi - HT.sIx xs.length 0 lo)
def rSlS : V → Option Int → Option Int → Hp → VK → Prop := fun x lo hi H Q => ∃ z, x = .str z ∧ z.length ≤ sizeLine ∧ Q (.str (Txt.slice z lo hi)) H
theorem sl_str : SlR X rSlS := by
  intro pins s σ H x v vl vu lo hi sl Q I rx hs pl pu q
  obtain ⟨z, rfl, hz, q⟩ := q
  obtain ⟨t, rfl⟩ := rx
  refine ⟨"str", _, F.slot_str_getitem.lookup, typeIs_str _ _ _, ?_⟩
  have fin : ∀ (t' : Tok) (k : Nat), EP X pins σ Q (.str (Txt.slice z lo hi) t') { s with toks := k } := fun t' k => ⟨.str (Txt.slice z lo hi), H, I.tok _, ⟨_, rfl⟩, q⟩
  cases pl with
  | none =>
    cases pu with
    | none => exact wpAny_getItem_str_slice (l := none) (u := none) (st := none) hs rfl (post_val_or_str ⟨Nat.le_trans (Txt.slice_le z _ _) hz, fun t' k => fin t' k⟩)
    | int j u => exact wpAny_getItem_str_slice (l := none) (u := some (j, u)) (st := none) hs rfl (post_val_or_str ⟨Nat.le_trans (Txt.slice_le z _ _) hz, fun t' k => fin t' k⟩)
  | int i u' =>
    cases pu with
    | none => exact wpAny_getItem_str_slice (l := some (i, u')) (u := none) (st := none) hs rfl (post_val_or_str ⟨Nat.le_trans (Txt.slice_le z _ _) hz, fun t' k => fin t' k⟩)
    | int j u => exact wpAny_getItem_str_slice (l := some (i, u')) (u := some (j, u)) (st := none) hs rfl (post_val_or_str ⟨Nat.le_trans (Txt.slice_le z _ _) hz, fun t' k => fin t' k⟩)
def cutD (x : Dv) (lo hi : Option Int) : Option (Rs Dv) := match x with
  | .str z => if z.length ≤ 100000 then some (.ok (.str (Txt.slice z lo hi))) else none
  | .lst xs => some (.ok (.lst (cutL xs lo hi)))
  | _ => none
theorem outO_bind {H : Hp} {Q : VK} {o : Option (Rs (Option Int))} {k : Option Int → Option (Rs Dv)} {P : Option Int → Hp → Prop} (h : Out X H (bnd o k) Q) (hp : ∀ b H', Same H H' → Out X H' (k b) Q → P b H') : OutO X H o P := by
  match o, h with
  | some (.exc _), h => exact h
  | some (.ok d), h => exact fun H1 e => hp d H1 e (Out.mono e h)
def lenD : List Dv → Option (Rs Dv)
  | [.str z] => if z.length ≤ 100000 then some (.ok (.int z.length)) else none
  | [.lst xs] => some (.ok (.int xs.length))
  | [.tup xs] => some (.ok (.int xs.length))
  | [.scr ns] => some (.ok (.int ns.length))
  | _ => none
def fB1 (g : List Dv → Option (Rs Dv)) (ga : FnA) : FnE := fun ρ => bnd (ga ρ) g
variable {x : Str} {p pos : Pos} {e : Expr} {es : List Expr} {ga : FnA}
theorem reps1 {K : PySem.W.Frag} {H : Hp} {d : Dv} {vs : List V} (r : Reps K H [d] vs) : ∃ v, vs = [v] ∧ Rep K H d v := by
  obtain ⟨v, us, rfl, r1, r2⟩ : ∃ v us, vs = v :: us ∧ Rep K H d v ∧ Reps K H [] us := r
  cases (show us = [] from r2)
  exact ⟨v, rfl, r1⟩
theorem reps2 {K : PySem.W.Frag} {H : Hp} {d d2 : Dv} {vs : List V} (r : Reps K H [d, d2] vs) : ∃ v v2, vs = [v, v2] ∧ Rep K H d v ∧ Rep K H d2 v2 := by
  obtain ⟨v, us, rfl, r1, r2⟩ : ∃ v us, vs = v :: us ∧ Rep K H d v ∧ Reps K H [d2] us := r
  obtain ⟨v2, rfl, r3⟩ := reps1 r2
  exact ⟨v, v2, rfl, r1, r3⟩
theorem fe_len (hg : Gl X "len") (hm : X.mg "len" = none) (ha : FA X (e :: es) ga) (he : starEach (e :: es) X.env = (false, eval e X.env) :: starEach es X.env := by kernel_rfl) (hpl : (backTo pos (starEach es X.env)).any (·.1) = false := by kernel_rfl) : FE X (.Call (.Name "len" p) (e :: es) [] pos) (fB1 lenD ga) :=
  fe_of (pe_callB call_len hg hm PySem.boot_len ha.h (by decide) (by decide) he hpl) fun σ H Q ρ E o => ⟨ρ, E, OutA.bind o fun ds vs H1 e1 rs o1 => by
    unfold lenD at o1
    split at o1
    · rename_i z
      split at o1
      · rename_i hz
        obtain ⟨v, rfl, r⟩ := reps1 rs
        cases (show v = .str z from r)
        exact ⟨_, _, rfl, ⟨le_line hz, rfl⟩, o1 _ H1 (.refl H1) rfl⟩
      · exact o1.elim
    · rename_i xs
      obtain ⟨v, rfl, r⟩ := reps1 rs
      obtain ⟨a, ws, rfl, h1, h2⟩ := r.lstE
      exact ⟨_, _, rfl, .inl ⟨ws, SqL.of h1, rfl⟩, o1 _ H1 (.refl H1) (by rw [h2.length]; rfl)⟩
    · rename_i xs
      obtain ⟨v, rfl, r⟩ := reps1 rs
      obtain ⟨a, ws, rfl, h1, h2⟩ := r.tupE
      exact ⟨_, _, rfl, .inr ⟨ws, SqT.of h1, rfl⟩, o1 _ H1 (.refl H1) (by rw [h2.length]; rfl)⟩
    · rename_i ns
      obtain ⟨v, rfl, r⟩ := reps1 rs
      obtain ⟨a, rfl, h1⟩ := r.scrE
      exact ⟨_, _, rfl, .inl ⟨_, h1, rfl⟩, o1 _ H1 (.refl H1) (by rw [List.length_map]; rfl)⟩
    · exact o1.elim⟩
def bools : List Dv → Option (List Bool)
  | [] => some []
  | .bl b :: r => (match bools r with | some bs => some (b :: bs) | none => none)
  | _ => none
def allD : List Dv → Option (Rs Dv)
  | [.lst xs] => (match bools xs with | some bs => some (.ok (.bl (bs.all id))) | none => none)
  | _ => none
theorem bools_ok {K : PySem.W.Frag} {H : Hp} : ∀ {ds : List Dv} {vs : List V} {us : List Value} {bs : List Bool}, Reps K H ds vs → Vals vs us → bools ds = some bs → us = bs.map Value.bool
  | [], vs, us, bs, r, q, h => by
    cases (show vs = [] from r)
    cases q
    cases h
    rfl
  | d :: ds, vs, us, bs, r, q, h => by
    obtain ⟨v, ws, rfl, r1, r2⟩ : ∃ v us, vs = v :: us ∧ Rep K H d v ∧ Reps K H ds us := r
    cases q with
    | cons q1 q2 =>
      cases d <;> try (cases h; done)
      rename_i b
      simp only [bools] at h
      cases hb : bools ds with
      | none => rw [hb] at h; cases h
      | some bs' =>
        rw [hb] at h
        cases h
        cases (show v = .bl b from r1)
        cases q1
        rw [bools_ok r2 q2 hb]
        rfl
theorem call_all : CallR X (.builtin "all") (fun xs H Q => ∃ a vs bs ds, xs = [.ref a] ∧ H a = some (.lst vs) ∧ Reps X.K H ds vs ∧ bools ds = some bs ∧ X.calm = true ∧ Q (.bl (bs.all id)) H) := by
  intro pins s σ H xs us Q I r h
  obtain ⟨a, vs, bs, ds, rfl, h1, h2, h3, hc, q⟩ := h
  obtain ⟨u, rfl, ru⟩ := vals1 r
  cases ru
  obtain ⟨z, its, n, rv, hl, e⟩ := I.lstM h1
  have eb := bools_ok h2 rv h3
  subst eb
  have hL : s.heap.IsList a (bs.map Value.bool).toArray := ⟨_, e, rfl, _, rfl⟩
  have hlt : a < s.heap.objs.size := Heap.lt_size e
  refine call_all_walk (wpAny_pyIter_list hL ?_)
  refine ⟨s.heap.objs.size, [s.heap.objs.size, a], [s.heap.objs.size], (bs.map Value.bool).toArray.size, _, _, fun i => (bs[i]?).getD true, rfl, Walks.list (A := X.A.in1) (I.ok.hd hc) _ a (Nat.ne_of_lt hlt) (bs.map Value.bool).toArray,
    ⟨⟨_, Heap.get?_push_size _ rfl, rfl, rfl⟩, hL.push _⟩, fun i v s' Q' E' hP hQ => ?_, fun h' tk hk => ?_⟩
  · have hP' : (bs.map Value.bool)[i]? = some v := by simpa using hP
    rw [List.getElem?_map] at hP'
    cases hb : bs[i]? with
    | none => rw [hb] at hP'; cases hP'
    | some b =>
      rw [hb] at hP'
      cases hP'
      have hQ2 : Q' ((bs[i]?).getD true) s' := hQ
      rw [hb] at hQ2
      exact wpAny_truthy_bool hQ2
  · have e2 : ((List.range (bs.map Value.bool).toArray.size).all fun i => (bs[i]?).getD true) = bs.all id := by
      rw [List.size_toArray, List.length_map]
      rw [Bool.eq_iff_iff]
      simp only [List.all_eq_true, List.mem_range, id]
      constructor
      · intro hh b hb
        obtain ⟨i, hi, rfl⟩ := List.mem_iff_getElem.mp hb
        simpa [hi] using hh i hi
      · intro hh i hi
        simp only [List.getElem?_eq_getElem hi, Option.getD_some]
        exact hh _ (List.getElem_mem hi)
    rw [e2]
    refine ⟨.bl _, H, I.kept fun b x eb => hk b x (fun hm => ?_) (Heap.get?_push_of_some _ eb), rfl, q⟩
    rw [List.mem_singleton.mp hm] at eb
    exact Nat.lt_irrefl _ (Heap.lt_size eb)
theorem fe_all (hc : X.calm = true) (hg : Gl X "all") (hm : X.mg "all" = none) (ha : FA X (e :: es) ga) (he : starEach (e :: es) X.env = (false, eval e X.env) :: starEach es X.env := by kernel_rfl) (hpl : (backTo pos (starEach es X.env)).any (·.1) = false := by kernel_rfl) : FE X (.Call (.Name "all" p) (e :: es) [] pos) (fB1 allD ga) :=
  fe_of (pe_callB call_all hg hm PyProof.Rows.boot_all ha.h (by decide) (by decide) he hpl) fun σ H Q ρ E o => ⟨ρ, E, OutA.bind o fun ds vs H1 e1 rs o1 => by
    unfold allD at o1
    split at o1
    · rename_i xs
      split at o1
      · rename_i bs hb
        obtain ⟨v, rfl, r⟩ := reps1 rs
        obtain ⟨a, ws, rfl, h1, h2⟩ := r.lstE
        exact ⟨a, ws, bs, xs, rfl, h1, h2, hb, hc, o1 _ H1 (.refl H1) rfl⟩
      · exact o1.elim
    · exact o1.elim⟩
def tyD : Dv → String
  | .non => "NoneType"
  | .bl _ => "bool"
  | .int _ => "int"
  | .str _ => "str"
  | .tup _ => "tuple"
  | .lst _ => "list"
  | .scr _ => "list"
  | .exn _ => "object"
end
end FD
namespace FD
open PySem PySem.Spec PyProof.Rows L2
section
variable {X : Cx} {p pos apos cpos pT : Pos} {e a o : Expr} {es : List Expr} {ga : FnA} {fa fo : FnE}
theorem tyOf_ok {K : PySem.W.Frag} {H : Hp} {d : Dv} {v : V} (r : Rep K H d v) (hs : ∀ ns, d ≠ .scr ns) (hx : ∀ c, d ≠ .exn c) : TyOf K H v (.type (tyD d)) := by
  cases d with
  | non => cases (show v = .non from r); exact .non
  | bl b => cases (show v = .bl b from r); exact .bl b
  | int b => cases (show v = .int b from r); exact .int b
  | str b => cases (show v = .str b from r); exact .str b
  | tup ds => obtain ⟨a, xs, rfl, h, _⟩ := r.tupE; exact .tup h
  | lst ds => obtain ⟨a, xs, rfl, h, _⟩ := r.lstE; exact .lst h
  | scr ns => exact absurd rfl (hs ns)
  | exn c => exact absurd rfl (hx c)
theorem call_isi (T : String) : CallR X (.builtin "isinstance") (fun xs H Q => ∃ x t b, xs = [x, .ty T] ∧ TyOf X.K H x t ∧ PySem.W.kitOne X.K t (.type T) = some b ∧ Q (.bl b) H) := by
  intro pins s σ H xs us Q I r h
  obtain ⟨x, t, b, rfl, ty, hk, q⟩ := h
  obtain ⟨u, w', rfl, ru, rw'⟩ := vals2 r
  cases (show w' = Value.type T from rw')
  exact isinst_ok I ru ty hk fun tk => ⟨.bl b, H, I.tok tk, rfl, q⟩
def isiD (tb : Dv → Bool) : Dv → Option (Rs Dv)
  | .scr _ => none
  | .exn _ => none
  | d => some (.ok (.bl (tb d)))
theorem fe_isi {T : String} {tb : Dv → Bool} (hk : ∀ K d, PySem.W.kitOne K (.type (tyD d)) (.type T) = some (tb d)) (hT : bootBuiltins (Str.ofString T) = some (.type T)) (hn : Str.ofString T ≠ "__name__") (hdT : (Str.ofString T == ("__debug__" : Str)) = false)
    (hg : Gl X "isinstance") (hm : X.mg "isinstance" = none) (hgT : Gl X (Str.ofString T)) (hmT : X.mg (Str.ofString T) = none) (ha : FE X a fa)
    (hs1 : starEach [a, .Name (Str.ofString T) pT] X.env = (false, eval a X.env) :: starEach [.Name (Str.ofString T) pT] X.env := by kernel_rfl) (hs2 : starEach [.Name (Str.ofString T) pT] X.env = (false, eval (.Name (Str.ofString T) pT) X.env) :: starEach [] X.env := by kernel_rfl)
    (hpl : (backTo pos (starEach [.Name (Str.ofString T) pT] X.env)).any (·.1) = false := by kernel_rfl) :
    FE X (.Call (.Name "isinstance" p) [a, .Name (Str.ofString T) pT] [] pos) (f1 (isiD tb) fa) :=
  fe_of (pe_callB (call_isi T) hg hm PyProof.Rows.boot_isinstance (pa_cons ha.h (pa_cons (pe_bltn (v := .ty T) hgT hmT hT rfl hn hdT) pa_nil hs2) hs1) (by decide) (by decide) hs1 hpl) fun σ H Q ρ E o => ⟨ρ, E, Out.bind o fun d v H1 e1 r o1 => by
    show ∃ x t b, [v, V.ty T] = [x, .ty T] ∧ _
    cases d with
    | scr ns => exact o1.elim
    | exn c => exact o1.elim
    | _ => exact ⟨v, _, _, rfl, tyOf_ok r (fun ns z => by cases z) (fun c z => by cases z), hk X.K _, o1 _ H1 (.refl H1) rfl⟩⟩
def tbStr : Dv → Bool
  | .str _ => true
  | _ => false
theorem kit_str (K : PySem.W.Frag) (d : Dv) : PySem.W.kitOne K (.type (tyD d)) (.type "str") = some (tbStr d) := by cases d <;> kernel_rfl
def tbTup : Dv → Bool
  | .tup _ => true
  | _ => false
theorem kit_tup (K : PySem.W.Frag) (d : Dv) : PySem.W.kitOne K (.type (tyD d)) (.type "tuple") = some (tbTup d) := by cases d <;> kernel_rfl
def tbBool : Dv → Bool
  | .bl _ => true
  | _ => false
theorem kit_bool (K : PySem.W.Frag) (d : Dv) : PySem.W.kitOne K (.type (tyD d)) (.type "bool") = some (tbBool d) := by cases d <;> kernel_rfl
def fM (g : Str → List Dv → Option (Rs Dv)) (fo : FnE) (ga : FnA) : FnE := fun ρ => bnd (fo ρ) fun x => match x with
  | .str i => bnd (ga ρ) fun xs => g i xs
  | _ => none
def strB (h : Str → Str → Bool) : Str → List Dv → Option (Rs Dv)
  | x, [.str y] => some (.ok (.bl (h x y)))
  | _, _ => none
def rStrB (h : Str → Str → Bool) : V → List V → Hp → VK → Prop := fun x xs H Q => ∃ i j, x = .str i ∧ xs = [.str j] ∧ Q (.bl (h i j)) H
theorem mt_sw : MtR X "str.startswith" (rStrB Txt.startswith) := by
  intro pins s σ H x xs v us Q I rx rs h
  obtain ⟨i, j, rfl, rfl, q⟩ := h
  obtain ⟨t, rfl⟩ := rx
  obtain ⟨u, rfl, ru⟩ := vals1 rs
  obtain ⟨t', rfl⟩ := ru
  exact SC.startswith ⟨.bl _, H, I, rfl, q⟩
theorem mt_ew : MtR X "str.endswith" (rStrB Txt.endswith) := by
  intro pins s σ H x xs v us Q I rx rs h
  obtain ⟨i, j, rfl, rfl, q⟩ := h
  obtain ⟨t, rfl⟩ := rx
  obtain ⟨u, rfl, ru⟩ := vals1 rs
  obtain ⟨t', rfl⟩ := ru
  exact SC.endswith ⟨.bl _, H, I, rfl, q⟩
theorem fe_strM {name : Str} {id : String} {r : V → List V → Hp → VK → Prop} {g : Str → List Dv → Option (Rs Dv)} (slot : Slot "str" name id) (hty : typeOf (.builtin id) = pure (.type "method_descriptor")) (hm : MtR X id r)
    (hg : ∀ i ds vs H Q, Reps X.K H ds vs → Out X H (g i ds) Q → r (.str i) vs H Q) (ho : FE X o fo) (ha : FA X (e :: es) ga)
    (hbase : attributeBase o name X.env (eval o X.env) = eval o X.env := by kernel_rfl)
    (hfew : ((backTo cpos (starEach (e :: es) X.env)).all (fun x => !x.1) && (backToKw cpos (keywordEach [] X.env)).all (fun x => x.1.isSome)
      && decide ((e :: es).length + ([] : List Keyword).length + (if ([] : List Keyword).isEmpty then 0 else 1) < 30)) = true := by kernel_rfl)
    (hline : (apos.endLine == cpos.line) = true := by kernel_rfl) (hs : starEach (e :: es) X.env = (false, eval e X.env) :: starEach es X.env := by kernel_rfl) (hplain : (backTo cpos (starEach es X.env)).any (·.1) = false := by kernel_rfl) :
    FE X (.Call (.Attribute o name apos) (e :: es) [] cpos) (fM g fo ga) :=
  fe_of (pe_bm PySem.F.plainAttrs_str slot hty hm ho.h ha.h hbase hfew hline hs hplain) fun σ H Q ρ E o => ⟨ρ, E, Out.bind o fun d v H1 e1 rd o1 => by
    cases d <;> try exact (show False from o1).elim
    rename_i i
    cases (show v = .str i from rd)
    exact ⟨rfl, ρ, E.mono e1, OutA.bind o1 fun ds vs H2 e2 rs o2 => hg i ds vs H2 Q rs o2⟩⟩
theorem g_strB {h : Str → Str → Bool} (i : Str) (ds : List Dv) (vs : List V) (H : Hp) (Q : VK) (rs : Reps X.K H ds vs) (o : Out X H (strB h i ds) Q) : rStrB h (.str i) vs H Q := by
  unfold strB at o
  split at o
  · rename_i j
    obtain ⟨w, rfl, rw'⟩ := reps1 rs
    cases (show w = .str j from rw')
    exact ⟨i, j, rfl, rfl, o _ H (.refl H) rfl⟩
  · exact o.elim
def rScr (K : PySem.W.Frag) : R2 := fun x y H Q => ∃ (a b : Addr) (ns : List Int), x = .ref a ∧ y = .ref b ∧ SqL K H a (ns.map V.int) ∧ H b = some (.lst []) ∧ Q (.bl ns.isEmpty) H
theorem o_scr (hu : X.A.units < cLine) : OpR X (compareOp .Eq) (rScr X.K) := by
  intro pins s σ H x y v u Q I rx ry h
  obtain ⟨a, b, ns, rfl, rfl, h1, h2, q⟩ := h
  cases rx
  cases ry
  obtain ⟨its, r, pl, hz⟩ := I.list h1
  obtain ⟨z2, its2, n2, r2, hl2, e2⟩ := I.lstM h2
  cases r2
  have hb : s.heap.IsList b #[] := ⟨_, e2, rfl, _, rfl⟩
  have hl := r.length
  cases ns with
  | nil =>
    have e0 : its = [] := by cases its with | nil => rfl | cons _ _ => simp at hl
    subst e0
    exact SeqAt.eq_listAt (e := fun _ => true) pl.isList hb rfl hu (fun i hi => absurd hi (by simp)) (by first | exact ⟨.bl _, H, I, rfl, q⟩ | (refine ⟨.bl _, H, I, ?_, q⟩; simp [RelV]))
  | cons n ns =>
    refine SeqAt.eq_list_lengthsAt pl.isList hb ?_ hu ⟨.bl _, H, I, rfl, q⟩
    have : 0 < its.length := by rw [← hl]; simp
    simp
    exact fun z => by rw [z] at this; simp at this
def scrD : Dv → Dv → Option (Rs Dv)
  | .scr ns, .lst [] => some (.ok (.bl ns.isEmpty))
  | _, _ => none
theorem g_scr : GOp X (rScr X.K) scrD := by
  intro dx dy x y H Q rx ry o
  unfold scrD at o
  split at o
  · rename_i ns
    obtain ⟨a, rfl, h1⟩ := rx.scrE
    obtain ⟨b, xs, rfl, h2, h3⟩ := ry.lstE
    cases (show xs = [] from h3)
    exact ⟨a, b, ns, rfl, rfl, h1, h2, o _ H (.refl H) rfl⟩
  · exact o.elim
end
end FD
namespace FD
open PySem
theorem bt_str : bootBuiltins (Str.ofString "str") = some (.type "str") := PyProof.Rows.boot_str
theorem bt_tuple : bootBuiltins (Str.ofString "tuple") = some (.type "tuple") := by decide +kernel
theorem bt_bool : bootBuiltins (Str.ofString "bool") = some (.type "bool") := by decide +kernel
end FD
namespace FD
open PySem PySem.Spec PyProof.Rows L2
mutual
def toPy : Dv → PyData
  | .non => .none
  | .bl b => .bool b
  | .int i => .int i
  | .str x => .str x
  | .tup xs => .tuple (toPys xs)
  | .lst xs => .list (toPys xs)
  | .scr ns => .list (ns.map PyData.int)
  | .exn _ => .dict []
def toPys : List Dv → List PyData
  | [] => []
  | d :: ds => toPy d :: toPys ds
end
section
variable {X : Cx} {pins : List (Addr × Obj)} {σ : L2.St} {H : Hp} {s : Shared}
theorem ints_reads : ∀ {ns : List Int} {us : List Value}, Vals (ns.map V.int) us → ∃ as, ReadsAll s.heap us (ns.map PyData.int) as
  | [], us, r => by cases r; exact ⟨_, .nil⟩
  | n :: ns, us, r => by
    cases r with
    | cons r1 r2 =>
      obtain ⟨t, rfl⟩ := r1
      obtain ⟨as, q⟩ := ints_reads r2
      exact ⟨_, .cons (.int n t) q⟩
mutual
theorem Rep.reads (I : Inv X pins σ H s) : ∀ (d : Dv) (v : V) (u : Value), Rep X.K H d v → RelV v u → (toPy d).canLay0 = true → ∃ as, Reads s.heap u (toPy d) as
  | .non, v, u, r, q, hz0 => by cases (show v = .non from r); cases (show u = Value.none from q); exact ⟨_, .none⟩
  | .bl b, v, u, r, q, hz0 => by cases (show v = .bl b from r); cases (show u = Value.bool b from q); exact ⟨_, .bool b⟩
  | .int i, v, u, r, q, hz0 => by cases (show v = .int i from r); obtain ⟨t, rfl⟩ := (show ∃ t, u = Value.int i t from q); exact ⟨_, .int i t⟩
  | .str x, v, u, r, q, hz0 => by cases (show v = .str x from r); obtain ⟨t, rfl⟩ := (show ∃ t, u = Value.str x t from q); exact ⟨_, .str x t⟩
  | .tup ds, v, u, r, q, hz0 => by
    obtain ⟨a, xs, rfl, h, rs⟩ := r.tupE
    cases (show u = Value.ref a from q)
    obtain ⟨its, rv, ⟨o, e, c, n, d⟩, hz⟩ := I.tuple (SqT.of h)
    obtain ⟨as, ra⟩ := Reps.reads I ds xs its rs rv (by simpa [toPy, PyData.canLay0] using hz0)
    exact ⟨as, .tuple e c d (by simpa using ra)⟩
  | .lst ds, v, u, r, q, hz0 => by
    obtain ⟨a, xs, rfl, h, rs⟩ := r.lstE
    cases (show u = Value.ref a from q)
    obtain ⟨z, its, n, rv, hl, e⟩ := I.lstM h
    obtain ⟨as, ra⟩ := Reps.reads I ds xs its rs rv (by simpa [toPy, PyData.canLay0] using hz0)
    exact ⟨a :: as, .list e rfl rfl (by simpa using ra)⟩
  | .scr ns, v, u, r, q, hz0 => by
    obtain ⟨a, rfl, h⟩ := r.scrE
    cases (show u = Value.ref a from q)
    obtain ⟨its, rv, ⟨o, n, e, c, hd, d⟩, hz⟩ := I.list h
    obtain ⟨as, ra⟩ := ints_reads (s := s) rv
    exact ⟨a :: as, .list e c d (by simpa using ra)⟩
  | .exn c, v, u, r, q, hz0 => by simp [toPy, PyData.canLay0] at hz0
theorem Reps.reads (I : Inv X pins σ H s) : ∀ (ds : List Dv) (vs : List V) (us : List Value), Reps X.K H ds vs → Vals vs us → PyData.canLayAll0 (toPys ds) = true → ∃ as, ReadsAll s.heap us (toPys ds) as
  | [], vs, us, r, q, _ => by cases (show vs = [] from r); cases q; exact ⟨_, .nil⟩
  | d :: ds, vs, us, r, q, hz0 => by
    obtain ⟨v, ws, rfl, r1, r2⟩ : ∃ v us, vs = v :: us ∧ Rep X.K H d v ∧ Reps X.K H ds us := r
    cases q with
    | cons q1 q2 =>
      have hz1 : (toPy d).canLay0 = true ∧ PyData.canLayAll0 (toPys ds) = true := by simpa [toPys, PyData.canLayAll0] using hz0
      obtain ⟨as, a⟩ := Rep.reads I d v _ r1 q1 hz1.1
      obtain ⟨bs, b⟩ := Reps.reads I ds ws _ r2 q2 hz1.2
      exact ⟨_, .cons a b⟩
end
end
section
variable {X : Cx}
def okP (d : Dv) : Bool := SeqAt.shaped (toPy d)
def rPy (X : Cx) (neg : Bool) : R2 := fun x y H Q => ∃ dx dy, Rep X.K H dx x ∧ Rep X.K H dy y ∧ okP dx = true ∧ okP dy = true ∧ Q (.bl (if neg then !PyData.eqv (toPy dx) (toPy dy) else PyData.eqv (toPy dx) (toPy dy))) H
theorem op_eqP (hu : X.A.units + 64 < cLine) : OpR X (compareOp .Eq) (rPy X false) := by
  intro pins s σ H x y v u Q I rx ry h
  obtain ⟨dx, dy, qx, qy, hx, hy, q⟩ := h
  obtain ⟨as, ra⟩ := Rep.reads I dx x v qx rx (Bool.and_eq_true_iff.mp hx).1
  obtain ⟨bs, rb⟩ := Rep.reads I dy y u qy ry (Bool.and_eq_true_iff.mp hy).1
  exact SeqAt.compareEq_shaped ra rb hx hy hu ⟨.bl _, H, I, rfl, q⟩
theorem op_neP (hu : X.A.units + 64 < cLine) : OpR X (compareOp .NotEq) (rPy X true) := by
  intro pins s σ H x y v u Q I rx ry h
  obtain ⟨dx, dy, qx, qy, hx, hy, q⟩ := h
  obtain ⟨as, ra⟩ := Rep.reads I dx x v qx rx (Bool.and_eq_true_iff.mp hx).1
  obtain ⟨bs, rb⟩ := Rep.reads I dy y u qy ry (Bool.and_eq_true_iff.mp hy).1
  exact SeqAt.compareNe_shaped ra rb hx hy hu ⟨.bl _, H, I, rfl, q⟩
def eqX (x y : Dv) : Option (Rs Dv) := match eqS x y with
  | some b => some (.ok (.bl b))
  | none => if okP x && okP y then some (.ok (.bl (PyData.eqv (toPy x) (toPy y)))) else none
def neX (x y : Dv) : Option (Rs Dv) := match eqS x y with
  | some b => some (.ok (.bl (!b)))
  | none => if okP x && okP y then some (.ok (.bl (!PyData.eqv (toPy x) (toPy y)))) else none
def rEqX (X : Cx) : R2 := fun x y H Q => rEq x y H Q ∨ rPy X false x y H Q
def rNeX (X : Cx) : R2 := fun x y H Q => rNe x y H Q ∨ rPy X true x y H Q
theorem o_eqX (hu : X.A.units + 64 < cLine) : OpR X (compareOp .Eq) (rEqX X) := op_eq.or (op_eqP hu)
theorem o_neX (hu : X.A.units + 64 < cLine) : OpR X (compareOp .NotEq) (rNeX X) := op_ne.or (op_neP hu)
theorem g_eqX : GOp X (rEqX X) eqX := by
  intro dx dy x y H Q rx ry o
  unfold eqX at o
  split at o
  · rename_i b hb
    obtain ⟨h1, h2⟩ := eqS_ok rx ry hb
    exact .inl ⟨h1, by rw [h2]; exact o _ H (.refl H) rfl⟩
  · split at o
    · rename_i hc
      rw [Bool.and_eq_true] at hc
      exact .inr ⟨dx, dy, rx, ry, hc.1, hc.2, o _ H (.refl H) rfl⟩
    · exact o.elim
theorem g_neX : GOp X (rNeX X) neX := by
  intro dx dy x y H Q rx ry o
  unfold neX at o
  split at o
  · rename_i b hb
    obtain ⟨h1, h2⟩ := eqS_ok rx ry hb
    exact .inl ⟨h1, by rw [h2]; exact o _ H (.refl H) rfl⟩
  · split at o
    · rename_i hc
      rw [Bool.and_eq_true] at hc
      exact .inr ⟨dx, dy, rx, ry, hc.1, hc.2, o _ H (.refl H) rfl⟩
    · exact o.elim
def ltX : Dv → Dv → Option (Rs Dv)
  | .int i, .int j => some (.ok (.bl (decide (i < j))))
  | .str x, .str y => some (.ok (.bl (decide (x.cps.toList < y.cps.toList))))
  | _, _ => none
def rLtX : R2 := fun x y H Q => rI0 (fun i j => .bl (decide (i < j))) x y H Q ∨ ∃ i j, x = .str i ∧ y = .str j ∧ Q (.bl (decide (i.cps.toList < j.cps.toList))) H
theorem o_ltX : OpR X (compareOp .Lt) rLtX := op_lt.or op_lt_str
theorem g_ltX : GOp X rLtX ltX := by
  intro dx dy x y H Q rx ry o
  cases dx <;> cases dy <;> try exact (show False from o).elim
  · rename_i i j
    exact .inl ⟨i, j, rx, ry, o _ H (.refl H) rfl⟩
  · rename_i i j
    exact .inr ⟨i, j, rx, ry, o _ H (.refl H) rfl⟩
theorem vals_strs : ∀ (ps : List Str) (k : Nat), Vals (ps.map V.str) (strsFrom k ps)
  | [], _ => .nil
  | p :: ps, k => .cons ⟨k, rfl⟩ (vals_strs ps (k + 1))
theorem reps_strs {K : PySem.W.Frag} {H : Hp} : ∀ ps : List Str, Reps K H (ps.map Dv.str) (ps.map V.str)
  | [] => rfl
  | p :: ps => ⟨.str p, ps.map V.str, rfl, rfl, reps_strs ps⟩
def splitD : Str → List Dv → Option (Rs Dv)
  | x, [.str y] => if y.length ≠ 0 ∧ x.length ≤ 100000 ∧ (Txt.split x y).length ≤ 100000 then some (.ok (.lst ((Txt.split x y).map Dv.str))) else none
  | _, _ => none
def rSplit : V → List V → Hp → VK → Prop := fun x xs H Q => ∃ i j, x = .str i ∧ xs = [.str j] ∧ j.length ≠ 0 ∧ i.length ≤ sizeLine ∧ (Txt.split i j).length ≤ sizeLine ∧ ∀ p, H p = none → Q (.ref p) (upd H p (.lst ((Txt.split i j).map V.str)))
theorem mt_split : MtR X "str.split" rSplit := by
  intro pins s σ H x xs v us Q I rx rs h
  obtain ⟨i, j, rfl, rfl, hj, hi, hn, q⟩ := h
  obtain ⟨t, rfl⟩ := rx
  obtain ⟨u, rfl, ru⟩ := vals1 rs
  obtain ⟨t', rfl⟩ := ru
  have hy : (j.length == 0) = false := by simpa using hj
  have one : ∀ {s' : Shared}, s' = { s with heap := s.heap.push { cls := .type "list", data := .seq [Value.str i t].toArray } } → Txt.split i j = [i] → EP X pins σ Q (.ref s.heap.objs.size) s' := fun e e2 => by
    subst e
    rw [e2] at q
    exact ⟨.ref _, _, I.lnew (its := [Value.str i t]) (ys := [V.str i]) (t' := s.toks) (.cons ⟨t, rfl⟩ .nil) (by show 1 ≤ sizeLine; decide), rfl, q _ I.fresh⟩
  cases h1 : (decide (i.length < j.length) || decide (Builtin.Str.strKind i < Builtin.Str.strKind j))
  · cases hf : (Builtin.Str.occurrences i j 0 i.length (i.length + 1)).isEmpty
    · have e2 : Txt.split i j = Builtin.Str.partsBetween i (Builtin.Str.occurrences i j 0 i.length (i.length + 1)) j.length := by
        unfold Txt.split
        rw [if_neg (by rw [h1]; exact Bool.false_ne_true), if_neg (by rw [hf]; exact Bool.false_ne_true)]
      rw [e2] at q hn
      refine call_meets F.slot_str_split (typeIs_str _ _ _) F.entry_str_split (F.args_str_split_2 _ _) (meets_str_split_sep i j t t' h1 hy hf hi hn) ?_
      exact ⟨.ref _, _, I.lnew (t' := _) (vals_strs _ _) (by rw [List.length_map]; exact hn), rfl, q _ I.fresh⟩
    · refine call_meets F.slot_str_split (typeIs_str _ _ _) F.entry_str_split (F.args_str_split_2 _ _) (meets_str_split_not_found i j t t' h1 hy hf) ?_
      exact one rfl (by unfold Txt.split; rw [if_neg (by rw [h1]; exact Bool.false_ne_true), if_pos hf])
  · refine call_meets F.slot_str_split (typeIs_str _ _ _) F.entry_str_split (F.args_str_split_2 _ _) (meets_str_split_cannot_occur i j t t' h1) ?_
    exact one rfl (by unfold Txt.split; rw [if_pos h1])
theorem g_split (i : Str) (ds : List Dv) (vs : List V) (H : Hp) (Q : VK) (rs : Reps X.K H ds vs) (o : Out X H (splitD i ds) Q) : rSplit (.str i) vs H Q := by
  unfold splitD at o
  split at o
  · rename_i j
    split at o
    · rename_i hc
      obtain ⟨w, rfl, rw'⟩ := reps1 rs
      cases (show w = .str j from rw')
      exact ⟨i, j, rfl, rfl, hc.1, le_line hc.2.1, le_line hc.2.2, fun p hp => o _ _ (same_new hp _) ⟨p, _, rfl, upd_same, reps_strs _⟩⟩
    · exact o.elim
  · exact o.elim
def texts : List Dv → Option (List Str)
  | [] => some []
  | .str x :: r => (match texts r with | some xs => some (x :: xs) | none => none)
  | _ => none
variable {p pos : Pos} {e : Expr} {es : List Expr} {ga : FnA}
def tupleD : List Dv → Option (Rs Dv)
  | [.lst xs] => some (.ok (.tup xs))
  | [.tup xs] => some (.ok (.tup xs))
  | _ => none
theorem fe_tuple (hg : Gl X "tuple") (hm : X.mg "tuple" = none) (ha : FA X (e :: es) ga) (he : starEach (e :: es) X.env = (false, eval e X.env) :: starEach es X.env := by kernel_rfl) (hpl : (backTo pos (starEach es X.env)).any (·.1) = false := by kernel_rfl) : FE X (.Call (.Name "tuple" p) (e :: es) [] pos) (fB1 tupleD ga) :=
  fe_of (pe_callTy call_tuple_of hg hm (by decide +kernel) ha.h (by decide) (by decide) he hpl) fun σ H Q ρ E o => ⟨ρ, E, OutA.bind o fun ds vs H1 e1 rs o1 => by
    unfold tupleD at o1
    split at o1
    · rename_i xs
      obtain ⟨v, rfl, r⟩ := reps1 rs
      obtain ⟨a, ws, rfl, h1, h2⟩ := r.lstE
      exact ⟨a, ws, rfl, .inl ⟨SqL.of h1, fun l hl => o1 _ _ (same_new hl _) ⟨l, ws, rfl, upd_same, Reps.mono (same_new hl _) _ _ h2⟩⟩⟩
    · rename_i xs
      obtain ⟨v, rfl, r⟩ := reps1 rs
      obtain ⟨a, ws, rfl, h1, h2⟩ := r.tupE
      exact ⟨a, ws, rfl, .inr ⟨SqT.of h1, o1 _ H1 (.refl H1) ⟨a, ws, rfl, h1, h2⟩⟩⟩
    · exact o1.elim⟩
end
end FD
namespace FD
open PySem PySem.Spec PyProof.Rows L2
section
variable {X : Cx} {apos cpos : Pos} {e o : Expr} {es : List Expr} {ga : FnA} {fo : FnE}
def ixOf (x : Dv) : List Dv → Nat → Option Nat
  | [], _ => none
  | y :: ys, k => if eqF y x then some k else ixOf x ys (k + 1)
def idxD : List Dv → List Dv → Option (Rs Dv)
  | xs, [x] => if flatD x && xs.all flatD && decide (xs.length ≤ 100000) then (match ixOf x xs 0 with | some j => some (.ok (.int j)) | none => none) else none
  | _, _ => none
theorem ixOf_ok {K : PySem.W.Frag} {H : Hp} {x : Dv} {u : V} (q : Rep K H x u) (hx : flatD x = true) : ∀ {xs : List Dv} {vs : List V} {k j : Nat}, Reps K H xs vs → xs.all flatD = true → ixOf x xs k = some j →
    k ≤ j ∧ (∃ v, vs[j - k]? = some v ∧ eqV v u = true) ∧ ∀ (m : Nat) v, m < j - k → vs[m]? = some v → eqV v u = false
  | [], vs, k, j, r, _, h => by cases h
  | y :: ys, vs, k, j, r, hf, h => by
    obtain ⟨v, ws, rfl, r1, r2⟩ : ∃ v us, vs = v :: us ∧ Rep K H y v ∧ Reps K H ys us := r
    rw [List.all_cons, Bool.and_eq_true] at hf
    unfold ixOf at h
    have e1 := eqF_ok r1 q hf.1 hx
    split at h
    · rename_i hh
      cases h
      refine ⟨Nat.le_refl _, ⟨v, by simp, by rw [e1]; exact hh⟩, fun m w hm => by omega⟩
    · rename_i hh
      obtain ⟨a, ⟨w, b1, b2⟩, c⟩ := ixOf_ok q hx r2 hf.2 h
      refine ⟨by omega, ⟨w, ?_, b2⟩, fun m z hm hz => ?_⟩
      · have e : j - k = (j - (k + 1)) + 1 := by omega
        rw [e, List.getElem?_cons_succ]
        exact b1
      · cases m with
        | zero =>
          have : z = v := by simpa using hz.symm
          subst this
          rw [e1]
          simpa using hh
        | succ m => exact c m z (by omega) (by simpa using hz)
def rIndex : V → List V → Hp → VK → Prop := fun x xs H Q => ∃ a vs y j, x = .ref a ∧ xs = [y] ∧ H a = some (.lst vs) ∧ flatV y = true ∧ vs.all flatV = true ∧ vs.length ≤ 100000 ∧ (∃ v, vs[j]? = some v ∧ eqV v y = true) ∧ (∀ (m : Nat) v, m < j → vs[m]? = some v → eqV v y = false) ∧ Q (.int j) H
theorem eqU_at {y : V} {vs : List V} {its : List Value} (r : Vals vs its) (f : vs.all flatV = true) {m : Nat} {v : V} (h : vs[m]? = some v) : ∃ hm : m < its.length, eqU y its[m] = eqV v y := by
  obtain ⟨u, hu, ru⟩ := r.get h
  obtain ⟨hm, e⟩ := List.getElem?_eq_some_iff.mp hu
  refine ⟨hm, ?_⟩
  rw [e]
  exact eqU_of ru (List.all_eq_true.mp f v (List.mem_of_getElem? h))
theorem mt_index : MtR X "list.index" rIndex := by
  intro pins s σ H x xs v us Q I rx rs h
  obtain ⟨a, vs, y, j, rfl, rfl, h1, fy, fv, hz, ⟨w, hw, hit⟩, hno, q⟩ := h
  cases rx
  obtain ⟨u, rfl, ru⟩ := vals1 rs
  obtain ⟨z, its, n, rv, hl, e⟩ := I.lstM h1
  obtain ⟨hj, ej⟩ := eqU_at (y := y) rv fv hw
  refine call_meets PySem.F.slot_list_index ⟨_, e, rfl⟩ PySem.F.entry_list_index (PySem.F.args_list_index_2 _ _) (SeqAt.list_indexAt a its.toArray n none #[] u (eqU y) j (by simpa using hj) (by omega) (by simpa [ej] using hit) fun m hm hlt => ?_) ⟨e, fun t ht => mem_eqAt ru fy rv fv t (by simpa using ht), ⟨.int j, H, I.tok _, ⟨_, rfl⟩, q⟩⟩
  have hm' : m < vs.length := by rw [rv.length]; simpa using hm
  obtain ⟨hm2, em⟩ := eqU_at (y := y) rv fv (List.getElem?_eq_getElem hm')
  have := hno m vs[m] hlt (List.getElem?_eq_getElem hm')
  simpa [em] using this
def fML (g : List Dv → List Dv → Option (Rs Dv)) (fo : FnE) (ga : FnA) : FnE := fun ρ => bnd (fo ρ) fun x => match x with
  | .lst i => bnd (ga ρ) fun xs => g i xs
  | _ => none
theorem fe_index (ho : FE X o fo) (ha : FA X (e :: es) ga)
    (hbase : attributeBase o "index" X.env (eval o X.env) = eval o X.env := by kernel_rfl)
    (hfew : ((backTo cpos (starEach (e :: es) X.env)).all (fun x => !x.1) && (backToKw cpos (keywordEach [] X.env)).all (fun x => x.1.isSome)
      && decide ((e :: es).length + ([] : List Keyword).length + (if ([] : List Keyword).isEmpty then 0 else 1) < 30)) = true := by kernel_rfl)
    (hline : (apos.endLine == cpos.line) = true := by kernel_rfl) (hs : starEach (e :: es) X.env = (false, eval e X.env) :: starEach es X.env := by kernel_rfl) (hplain : (backTo cpos (starEach es X.env)).any (·.1) = false := by kernel_rfl) :
    FE X (.Call (.Attribute o "index" apos) (e :: es) [] cpos) (fML idxD fo ga) :=
  fe_of (pe_bm PySem.F.plainAttrs_list PySem.F.slot_list_index PySem.F.type_list_index mt_index ho.h ha.h hbase hfew hline hs hplain) fun σ H Q ρ E o => ⟨ρ, E, Out.bind o fun d v H1 e1 rd o1 => by
    cases d <;> try exact (show False from o1).elim
    rename_i ds
    obtain ⟨a, vs, rfl, h1, h2⟩ := rd.lstE
    refine ⟨.inl ⟨rfl, vs, SqL.of h1⟩, ρ, E.mono e1, OutA.bind o1 fun es ws H2 e2 rs o2 => ?_⟩
    unfold idxD at o2
    split at o2
    · rename_i x
      split at o2
      · rename_i hc
        rw [Bool.and_eq_true, Bool.and_eq_true] at hc
        split at o2
        · rename_i j hj
          obtain ⟨w, rfl, rw'⟩ := reps1 rs
          have h2' := Reps.mono e2 _ _ h2
          obtain ⟨c1, c2, c3⟩ := ixOf_ok rw' hc.1.1 h2' hc.1.2 hj
          refine ⟨a, vs, w, j, rfl, rfl, e2 _ _ h1, flat_ok rw' hc.1.1, flats_ok h2' hc.1.2, by rw [h2.length]; exact of_decide_eq_true hc.2, by simpa using c2, by simpa using c3, o2 _ H2 (.refl H2) rfl⟩
        · exact o2.elim
      · exact o2.elim
    · exact o2.elim⟩
end
end FD
namespace FD
open PySem PySem.Spec PyProof.Rows L2
structure FG (X : Cx) (tg : Expr) (b : Dv → Ev → Option Ev) : Prop where
  h : ∀ (pins : List (Addr × Obj)) (s : Shared) (σ : L2.St) (H : Hp) (v : V) (u : Value) (d : Dv) (ρ ρ' : Ev), Inv X pins σ H s → RelV v u → Rep X.K H d v → Envs X.K H σ ρ → b d ρ = some ρ' →
    wpAny (model X.prog X.w) X.A (assign tg X.env u) (fun _ s' => ∃ σ' H', Inv X pins σ' H' s' ∧ Same H H' ∧ Envs X.K H' σ' ρ') X.xe s
def gN (i : Nat) : Dv → Ev → Option Ev := fun d ρ => some (ρ.set i (some d))
def gP (i j : Nat) : Dv → Ev → Option Ev := fun d ρ => match d with
  | .tup [a, c] => some ((ρ.set i (some a)).set j (some c))
  | _ => none
section
variable {X : Cx} {pos p1 p2 : Pos}
theorem fg_name (i : Nat) {x : Str} (hN : X.N.Nodup) (hi : X.N[i]? = some x) (hx : Loc X.env.scope x) (hf : X.fn x = true ∨ X.env.scope.names.lookup x = some .local) : FG X (.Name x pos) (gN i) :=
  ⟨fun pins s σ H v u d ρ ρ' I r rd E e => by
    cases e
    exact thn (pg_name hN hi hx hf pins s σ H v u (fun σ' H' => H' = H ∧ σ' = σ.set i (some v)) I r ⟨rfl, rfl⟩) fun _ s' ⟨σ', H', I', e1, e2⟩ => by
      subst e1 e2
      exact ⟨_, _, I', .refl _, E.set rd⟩⟩
theorem fg_pair (i j : Nat) {x y : Str} {k : Nat} (hc : X.calm = true) (hN : X.N.Nodup) (hi : X.N[i]? = some x) (hx : Loc X.env.scope x) (hf : X.fn x = true ∨ X.env.scope.names.lookup x = some .local)
    (hj : X.N[j]? = some y) (hy : Loc X.env.scope y) (hg : X.fn y = true ∨ X.env.scope.names.lookup y = some .local)
    (hs1 : (assignEach [.Name x p1, .Name y p2] X.env).map (·.2) = assign (.Name x p1) X.env :: (assignEach [.Name y p2] X.env).map (·.2) := by kernel_rfl) (hs2 : (assignEach [.Name y p2] X.env).map (·.2) = assign (.Name y p2) X.env :: (assignEach [] X.env).map (·.2) := by kernel_rfl)
    (hn : (assignEach [.Name x p1, .Name y p2] X.env).length = 2 := by kernel_rfl) (hst : (assignEach [.Name x p1, .Name y p2] X.env).findIdx? (·.1) = none := by kernel_rfl) : FG X (.Tuple [.Name x p1, .Name y p2] k pos) (gP i j) :=
  ⟨fun pins s σ H v u d ρ ρ' I r rd E e => by
    unfold gP at e
    split at e
    · rename_i a c
      cases e
      obtain ⟨ad, xs, rfl, h1, h2⟩ := rd.tupE
      obtain ⟨va, vc, rfl, ra, rc⟩ := reps2 h2
      refine thn (pg_tup (n := 2) hc (pgs_cons (pg_name (i := i) hN hi hx hf) (pgs_cons (pg_name (i := j) hN hj hy hg) pgs_nil hs2) hs1) hn hst pins s σ H _ u (fun σ' H' => H' = H ∧ σ' = (σ.set i (some va)).set j (some vc)) I r ⟨ad, _, rfl, SqT.of h1, rfl, va, [vc], rfl, vc, [], rfl, rfl, rfl, rfl⟩) fun _ s' ⟨σ', H', I', e1, e2⟩ => ?_
      subst e1 e2
      exact ⟨_, _, I', .refl _, (E.set ra).set rc⟩
    · cases e⟩
end
structure WkG (K : PySem.W.Frag) (J : It) (ds : List Dv) (H0 : Hp) : Prop where
  go : ∀ i H, Same H0 H → i < ds.length → J.go i H
  stop : ∀ H, Same H0 H → J.stop ds.length H
  yld : ∀ i H x H', Same H0 H → i < ds.length → J.yld i H x H' → Same H H' ∧ ∃ d, ds[i]? = some d ∧ Rep K H' d x
theorem Wk.toG {K : PySem.W.Frag} {J : It} {ds : List Dv} {H0 : Hp} (w : Wk K J ds H0) : WkG K J ds H0 :=
  ⟨w.go, w.stop, fun i H x H' e hi y => by
    obtain ⟨rfl, d, h1, h2⟩ := w.yld i H x H' e hi y
    exact ⟨.refl _, d, h1, h2⟩⟩
def OutG (X : Cx) (H : Hp) (o : Option (Rs (List Dv))) (R : It → Hp → Prop) : Prop := match o with
  | none => False
  | some (.exc c) => XW X c H
  | some (.ok ds) => ∀ J H', Same H H' → WkG X.K J ds H' → R J H'
theorem OutG.mono {X : Cx} {H H' : Hp} {R : It → Hp → Prop} (e : Same H H') : ∀ {o : Option (Rs (List Dv))}, OutG X H o R → OutG X H' o R
  | none, h => h
  | some (.exc _), h => XW.mono h e
  | some (.ok _), h => fun v H1 e1 r => h v H1 (e.trans e1) r
structure FIG (X : Cx) (tg iter : Expr) (f : FnA) : Prop where
  h : PI X tg iter fun σ H R => ∃ ρ, Envs X.K H σ ρ ∧ OutG X H (f ρ) R
theorem FI.toG {X : Cx} {tg iter : Expr} {f : FnA} (h : FI X tg iter f) : FIG X tg iter f :=
  ⟨fun pins s σ H R I ⟨ρ, E, o⟩ => h.h pins s σ H R I ⟨ρ, E, by
    match hf : f ρ, o with
    | some (.exc c), o => exact o
    | some (.ok ds), o => exact fun J H' e w => o J H' e w.toG⟩⟩
def capG (m : Nat) (cs : List (Str × Nat)) (ρ : Ev) : Ev := List.replicate m none ++ cs.map fun c => (ρ[c.2]?).join
def mapG (b : Dv → Ev → Option Ev) (tst : Option FnB) (elt : FnE) (cap : Ev) : List Dv → Option (List Dv)
  | [] => some []
  | d :: ds => match b d cap with
    | none => none
    | some ρ => match (match tst with | none => (some (.ok true) : Option (Rs Bool)) | some t => t ρ) with
      | some (.ok true) => (match elt ρ with
        | some (.ok y) => (match mapG b tst elt cap ds with | some ys => some (y :: ys) | none => none)
        | _ => none)
      | some (.ok false) => mapG b tst elt cap ds
      | _ => none
structure CompOkG (osc scope : Scope) (cs : List (Str × Nat)) (N : List Str) : Prop where
  kind : scope.kind = .function
  cell : ∀ y ∈ scope.names, y.2 ≠ .cell
  names : ∀ y ∈ scope.names, y.2 = .local → scope.names.lookup y.1 = some .local
  free : ∀ y ∈ scope.names, y.2 = .free → osc.names.lookup y.1 = some .cell ∨ osc.names.lookup y.1 = some .free
  caps : ∀ c ∈ cs, N[c.2]? = some c.1 ∧ scope.names.lookup c.1 = some .free
def capGS (m : Nat) (cs : List (Str × Nat)) (σ : L2.St) : L2.St := List.replicate m none ++ cs.map fun c => (σ[c.2]?).join
theorem repl_none {α : Type} {m i : Nat} {v : α} {l : List (Option α)} (h : (List.replicate m (none : Option α) ++ l)[i]? = some (some v)) : ∃ k, i = m + k ∧ l[k]? = some (some v) := by
  by_cases hi : i < m
  · rw [List.getElem?_append_left (by simpa using hi), List.getElem?_replicate, if_pos hi] at h
    cases h
  · refine ⟨i - m, by omega, ?_⟩
    rw [List.getElem?_append_right (by simpa using hi)] at h
    simpa using h
theorem envs_capG {K : PySem.W.Frag} {H : Hp} {σ : L2.St} {ρ : Ev} (m : Nat) (cs : List (Str × Nat)) (E : Envs K H σ ρ) : Envs K H (capGS m cs σ) (capG m cs ρ) := by
  refine ⟨by simp [capGS, capG], fun i d h => ?_⟩
  obtain ⟨k, rfl, hk⟩ := repl_none h
  rw [List.getElem?_map] at hk
  cases hc : cs[k]? with
  | none => rw [hc] at hk; simp at hk
  | some c =>
    rw [hc] at hk
    simp only [Option.map_some, Option.some.injEq] at hk
    have h2 : ρ[c.2]? = some (some d) := by
      cases q : ρ[c.2]? with
      | none => rw [q] at hk; simp at hk
      | some o => rw [q] at hk; simp at hk; rw [hk]
    obtain ⟨v, h3, h4⟩ := E.at' c.2 d h2
    refine ⟨v, ?_, h4⟩
    unfold capGS
    rw [List.getElem?_append_right (by simp)]
    simp only [List.length_replicate, Nat.add_sub_cancel_left, List.getElem?_map, hc, Option.map_some, h3]
    rfl
theorem comp_invG {X : Cx} {pins : List (Addr × Obj)} {σ : L2.St} {H : Hp} {s : Shared} {scope : Scope} {ns : List Str} {cs : List (Str × Nat)} {fp : List Addr} {h₁ : Heap} {C : Addr} {t' : Nat} (ok : CompOkG X.env.scope scope cs X.N) (I : Inv X pins σ H s) (hfp : ∀ b ∈ fp, FpOk X pins H b) (hlt : ∀ b ∈ fp, b < s.heap.objs.size)
    (hC : s.heap.objs.size ≤ C) (hns : h₁.Ns C fun _ => none) (old : ∀ b o, s.heap.get? b = some o → h₁.get? b = some o) :
    Inv (compCx X (ns ++ cs.map (·.1)) scope C s H fp) [] (capGS ns.length cs σ) H { s with heap := h₁, toks := t' } := by
  have cl1 : ∀ n c, (clOf scope.names X.env []).lookup n = some c → X.env.cells.lookup n = some c := fun n c e => by
    rcases clOf_sound _ _ e with q | ⟨q1, q2⟩
    · simp at q
    · obtain ⟨c', e'⟩ := I.ok.has n (ok.free _ q1 rfl)
      rw [e'] at q2
      rw [e', q2] <;> rfl
  have kf : ∀ n k, (relabel scope X.env).names.lookup n = some k → (k = .cell ∨ k = .free) → (n, NameKind.free) ∈ scope.names := fun n k h hk => by
    rcases relabel_kind h with q | ⟨_, q⟩
    · rcases hk with rfl | rfl
      · exact absurd rfl (ok.cell _ q)
      · exact q
    · exact q
  refine ⟨⟨I.ok.mod, ok.kind, I.ok.glob, I.ok.blt, hC, fun y z c e1 e2 => I.ok.inj y z c (cl1 y c e1) (cl1 z c e2), fun y hy => ?_, fun y c h => Bool.noConfusion h, I.ok.hd, I.ok.frames, .inl rfl, fun b hb => ⟨fun z => ?_, fun y c e => (hfp b hb).2.2.2.2.1 y c (cl1 y c e)⟩, I.bs, Nat.le_trans I.ok.bsz I.sz, fun b o e hb => ?_, fun b hb z => ?_, I.stack, I.stkFree⟩,
    rfl, I.bare, Un.kept old, ⟨_, hns, fun i y v h1 h2 h3 => ?_⟩, fun y c e => ?_, I.hok.fresh hC, fun y c e => I.freeC y c (cl1 y c e), fun p hp => absurd (show p ∈ ([] : List (Addr × Obj)) from hp) (by simp), I.hok.kept old, by simp [capGS, compCx]⟩
  · have hm : (y, NameKind.free) ∈ scope.names := by
      rcases hy with hy | hy
      · exact kf y _ hy (.inl rfl)
      · exact kf y _ hy (.inr rfl)
    exact Option.isSome_iff_exists.mp (clOf_has _ _ hm)
  · have := hlt b hb
    rw [z] at this
    exact absurd (Nat.lt_of_lt_of_le this hC) (Nat.lt_irrefl _)
  · rcases (hfp b hb).2.2.2.1 with z | z
    · exact I.ok.noex b o e z
    · exact absurd (Nat.lt_of_lt_of_le (Heap.lt_size e) (Nat.le_trans I.ok.bsz z)) (Nat.lt_irrefl _)
  · rcases List.mem_cons.mp (I.stkSub b z) with q | q
    · exact (hfp b hb).2.1 q
    · exact (hfp b hb).2.2.1 q
  · obtain ⟨k, rfl, h4⟩ := repl_none h2
    have h1' : (ns ++ cs.map (·.1))[ns.length + k]? = some y := h1
    rw [List.getElem?_append_right (by simp)] at h1'
    simp only [Nat.add_sub_cancel_left] at h1'
    rw [List.getElem?_map] at h1'
    cases hc : cs[k]? with
    | none => rw [hc] at h1'; simp at h1'
    | some c =>
      rw [hc] at h1'
      have ey : c.1 = y := by simpa using h1'
      subst ey
      rw [List.getElem?_map, hc] at h4
      simp only [Option.map_some, Option.some.injEq] at h4
      have h2' : σ[c.2]? = some (some v) := by
        cases q : σ[c.2]? with
        | none => rw [q] at h4; simp at h4
        | some o => rw [q] at h4; simp at h4; rw [h4]
      obtain ⟨hN, hf⟩ := ok.caps c (List.mem_of_getElem? hc)
      have hv := ok.free _ (lookup_mem hf) rfl
      obtain ⟨mm, _, hl⟩ := I.loc
      obtain ⟨u, r, l⟩ := hl c.2 c.1 v hN h2' (.inr hv)
      refine ⟨u, r, .inr ⟨relabel_free hf, ?_⟩⟩
      rcases l with ⟨l, _⟩ | ⟨_, a, ha, o, ho, hd⟩
      · have l' : X.env.scope.names.lookup c.1 = some .local := l
        rcases hv with z | z
        · rw [l'] at z; cases z
        · rw [l'] at z; cases z
      · obtain ⟨a', ha'⟩ := Option.isSome_iff_exists.mp (clOf_has (env := X.env) scope.names [] (lookup_mem hf))
        have e2 := cl1 _ _ ha'
        rw [ha] at e2
        cases e2
        exact ⟨a, ha', o, old _ _ ho, hd⟩
  · obtain ⟨v, o, ho, hd⟩ := I.cell y c (cl1 y c e)
    exact ⟨v, o, old _ _ ho, hd⟩
theorem compLoop_any {prog : Program} {w : World} {A : Around} {R : Result → Shared → Prop} {s : Shared} {elt target iter : Expr} {ifs : List Expr} {scope : Scope} {pos : Pos} {it acc : Value} {env : Env} (I : Nat → Shared → Prop)
    (turn : ∀ n s, I n s → wpAny (model prog w) A (pyNext it) (fun r s₁ => match r with
      | none => R (.ok .next) s₁
      | some v => wpAny (model prog w) A (letOwnedTupleGo target it v) (fun _ s₀ => wpAny (model prog w) A (assign target env v) (fun _ s₂ =>
          wpAny (model prog w) A (forIn ifs true fun c r => if r = true then do let ok ← isTrue c env (eval c env); pure (ForInStep.yield ok) else pure (ForInStep.yield r)) (fun ok s₃ =>
            if ok = true then wpAny (model prog w) A (eval elt env) (fun x s₄ =>
              wpAny (model prog w) A (call (.builtin "list.append") [acc, x]) (fun _ s₅ => ∃ m, m < n ∧ I m s₅) (notedBy (model prog w) A env fun e s' => R (.error e) s') s₄) (notedBy (model prog w) A env fun e s' => R (.error e) s') s₃
            else ∃ m, m < n ∧ I m s₃) (notedBy (model prog w) A env fun e s' => R (.error e) s') s₂) (notedBy (model prog w) A env fun e s' => R (.error e) s') s₀) (notedBy (model prog w) A env fun e s' => R (.error e) s') s₁) (notedBy (model prog w) A env fun e s' => R (.error e) s') s)
    (n : Nat) (h : I n s) :
    codeAny (model prog w) A (.compLoop (.ListComp elt [⟨target, iter, ifs, 0⟩] scope pos) 0 it acc env) R s := by
  refine codeAny_loop rfl I (fun n s hI => ?_) n h
  show wpAny _ A ((compTurn (.ListComp elt [⟨target, iter, ifs, 0⟩] scope pos) 0 it acc env).onRaise (fun x => do noteFrame x env; theTreesLotGoes x)) _ _ s
  refine wpAny_noted ?_
  rw [compTurn_list]
  refine wpAny_bind (wpAny_standAt (wpAny_bind (wpAny_mono (turn n s hI) (fun r s₁ h₁ => ?_) fun _ _ h' => h')))
  cases r with
  | none => exact wpAny_pure h₁
  | some v =>
    refine wpAny_bind (wpAny_mono h₁ (fun _ s₀ h₀ => ?_) fun _ _ h' => h')
    refine wpAny_bind (wpAny_mono h₀ (fun _ s₂ h₂ => wpAny_bind (wpAny_mono h₂ (fun ok s₃ h₃ => ?_) fun _ _ h' => h')) fun _ _ h' => h')
    cases ok with
    | false =>
      rw [if_neg Bool.false_ne_true] at h₃
      first
        | exact wpAny_bind (wpAny_pure (wpAny_pure ⟨rfl, h₃⟩))
        | exact wpAny_pure ⟨rfl, h₃⟩
        | (show wpAny _ _ (again _) _ _ _; exact wpAny_pure ⟨rfl, h₃⟩)
    | true =>
      rw [if_pos rfl] at h₃
      first
        | exact wpAny_bind (wpAny_bind (wpAny_mono h₃ (fun x s₄ h₄ => wpAny_bind (wpAny_mono h₄ (fun _ s₅ h₅ => wpAny_pure (wpAny_pure ⟨rfl, h₅⟩)) fun _ _ h' => h')) fun _ _ h' => h'))
        | exact wpAny_bind (wpAny_mono h₃ (fun x s₄ h₄ => wpAny_bind (wpAny_mono h₄ (fun _ s₅ h₅ => wpAny_pure ⟨rfl, h₅⟩) fun _ _ h' => h')) fun _ _ h' => h')
def CompG (X : Cx) (ns : List Str) (cs : List (Str × Nat)) (scope : Scope) (D : Addr) (s2 : Shared) (H2 : Hp) (fp : List Addr) (tn : Nat → Heap → Prop) (ds ys : List Dv) (b : Dv → Ev → Option Ev) (tst : Option FnB) (fe : FnE) (ρ : Ev) (m : Nat) (s' : Shared) : Prop :=
  ∃ i σ' H' es vs its, m = ds.length - i ∧ i ≤ ds.length ∧ Inv (compCx X (ns ++ cs.map (·.1)) scope (D + 1) s2 H2 fp) [] σ' H' s' ∧ Envs X.K H' σ' (capG ns.length cs ρ) ∧ tn i s'.heap ∧ (∀ b ∈ fp, H' b = none) ∧ H' D = none ∧ LAt s'.heap D its ∧ Vals vs its ∧ Reps X.K H' es vs ∧ es.length ≤ i ∧ Same H2 H' ∧
      (match mapG b tst fe (capG ns.length cs ρ) (ds.drop i) with | some zs => es ++ zs = ys | none => False)
set_option maxHeartbeats 4000000 in
theorem comp_core {X : Cx} {pins : List (Addr × Obj)} {σ : L2.St} {tg elt iter : Expr} {ifs : List Expr} {scope : Scope} {pos : Pos} {ns : List Str} {tst : Option FnB} {fe : FnE} {b : Dv → Ev → Option Ev} {js : List Nat} (cs : List (Str × Nat)) (ok : CompOkG X.env.scope scope cs X.N) (hc : X.calm = true)
    (htg : ∀ C s H fp, FG (compCx X (ns ++ cs.map (·.1)) scope C s H fp) tg b) (helt : ∀ C s H fp, FE (compCx X (ns ++ cs.map (·.1)) scope C s H fp) elt fe) (hifs : ∀ C s H fp, FIfs (compCx X (ns ++ cs.map (·.1)) scope C s H fp) ifs tst)
    (hback : ∀ ρ d ρ', b d (capG ns.length cs ρ) = some ρ' → fgt js ρ' = capG ns.length cs ρ)
    {ρ : Ev} {s2 : Shared} {it : Addr} {fp : List Addr} {tn : Nat → Heap → Prop} {J : It} {H2 : Hp} (E : Envs X.K H2 σ ρ) (I2 : Inv X pins σ H2 s2) (T : Turn X.prog X.w X.K tg J fp it tn) (st2 : tn 0 s2.heap) (f2 : ∀ b ∈ fp, FpOk X pins H2 b) {ds ys : List Dv} (wk : WkG X.K J ds H2) (hdl : ds.length ≤ 100000) (hyl : ys.length ≤ 100000) (hm : mapG b tst fe (capG ns.length cs ρ) ds = some ys)
    {RR : Value → Addr → Result → Shared → Prop}
    (hRR : ∀ (D C : Addr) (s6 : Shared) (H5 : Hp) (vs : List V) (m6 : Str → Option Value), Inv X pins σ (upd H5 D (.lst vs)) s6 → H5 D = none → Same H2 H5 → Reps X.K H5 ys vs → s6.heap.Ns C m6 → H5 C = none → C ≠ D → s2.heap.objs.size ≤ C → RR (.ref D) C (.ok .next) s6) :
    wpAny (model X.prog X.w) X.A (newList []) (fun acc s₃ => wpAny (model X.prog X.w) X.A (newFunctionEnv scope X.env.globals (clOf scope.names X.env []) [] X.env.qual none .none (some X.env)) (fun cenv s₄ =>
      codeAny (model X.prog X.w) X.A (.compStart (.ListComp elt [⟨tg, iter, ifs, 0⟩] scope pos) 0 (.ref it) acc { cenv with scope := relabel scope X.env }) (RR acc cenv.locals) s₄) X.xe s₃) X.xe s2 := by
  have fplt : ∀ b ∈ fp, b < s2.heap.objs.size := fun b hb => by
    obtain ⟨o, ho, _⟩ := T.obj _ _ st2 b hb
    exact Heap.lt_size ho
  refine wpAny_newObj_type (wpAny_newFunctionEnv ok.cell (by intro y hy; simp at hy) (fun h₁ hns₁ hsb₁ => ?_) ok.kind)
  dsimp only at hns₁ hsb₁ ⊢
  generalize hH2 : s2.heap.push { cls := .type "list", dict := none, data := .seq ([] : List Value).toArray } = P2 at hns₁ hsb₁ ⊢
  obtain ⟨D, hD⟩ : ∃ D, s2.heap.objs.size = D := ⟨_, rfl⟩
  have hC : P2.objs.size = D + 1 := by rw [← hH2, Heap.size_push, hD]
  rw [hC] at hns₁ hsb₁
  rw [hC, hD]
  have old : ∀ b o, s2.heap.get? b = some o → h₁.get? b = some o := fun b o e => by
    have hb : b < D := by rw [← hD]; exact Heap.lt_size e
    exact hsb₁.extBut b o (ad_ne1 hb) (Heap.get?_push_of_some _ (hH2 ▸ Heap.get?_push_of_some _ e))
  have hacc : LAt h₁ D [] := ⟨0, hsb₁.extBut _ _ ad_s (Heap.get?_push_of_some _ (by rw [← hH2, ← hD]; exact Heap.get?_push_size _ rfl))⟩
  have hns : h₁.Ns (D + 1) fun _ => none := by simpa using hns₁
  have I4 : Inv (compCx X (ns ++ cs.map (·.1)) scope (D + 1) s2 H2 fp) [] (capGS ns.length cs σ) H2 { s2 with heap := h₁, toks := s2.toks + ([] : List (Str × Value)).length } := comp_invG ok I2 f2 fplt (by rw [hD]; exact Nat.le_succ D) hns old
  have E4 : Envs X.K H2 (capGS ns.length cs σ) (capG ns.length cs ρ) := envs_capG ns.length cs E
  have HD : H2 D = none := I2.hok.fresh (Nat.le_of_eq hD)
  have fpD : ∀ b ∈ fp, b ≠ D := fun b hb => ad_ne (hD ▸ fplt b hb)
  have loop : ∀ s4 : Shared, s4 = { s2 with heap := h₁, toks := s2.toks + ([] : List (Str × Value)).length } →
      codeAny (model X.prog X.w) X.A (.compLoop (.ListComp elt [⟨tg, iter, ifs, 0⟩] scope pos) 0 (.ref it) (.ref D) (compEnvC scope (clOf scope.names X.env []) (D + 1) X.env)) (RR (.ref D) (D + 1)) s4 := by
    rintro s4 rfl
    refine compLoop_any (fun k s' => CompG X ns cs scope D s2 H2 fp tn ds ys b tst fe ρ k s') ?_ ds.length ⟨0, capGS ns.length cs σ, H2, [], [], [], by simp, Nat.zero_le _, I4, E4, T.keep _ _ _ st2 fun b hb o e => old b o e, fun b hb => (f2 b hb).1, HD, hacc, .nil, rfl, Nat.le_refl _, .refl H2, by rw [List.drop_zero, hm]; rfl⟩
    rintro k0 s5 ⟨i, σ5, H5, es, vs, its, rfl, hi5, I5, E5, t5, fr5, D5, l5, v5, r5, hel, e5, hz⟩
    have nC : ∀ b ∈ fp, b ≠ D + 1 := fun b hb => ad_ne1 (hD ▸ fplt b hb)
    have DL : D ≠ (compCx X (ns ++ cs.map (·.1)) scope (D + 1) s2 H2 fp).env.locals := ad_s
    have Dcell : ∀ y c, (compCx X (ns ++ cs.map (·.1)) scope (D + 1) s2 H2 fp).env.cells.lookup y = some c → c ≠ D := fun y c e z => by
      obtain ⟨v, o, ho, hd⟩ := I5.cell y c e
      obtain ⟨n, q⟩ := l5
      subst z
      rw [q] at ho
      cases ho
      cases hd
    have Dfs : D ∉ (compCx X (ns ++ cs.map (·.1)) scope (D + 1) s2 H2 fp).fs := fun z => by
      rcases List.mem_cons.mp (I2.stkSub D z) with q | q
      · have z2 := I2.lt
        rw [hD] at z2
        exact ad_ne z2 q.symm
      · exact I2.nofs (Nat.le_of_eq hD) q
    have Dp : FpOk (compCx X (ns ++ cs.map (·.1)) scope (D + 1) s2 H2 fp) [] H5 D := ⟨D5, DL, Dfs, .inr (Nat.le_of_eq hD), Dcell, fun p hp => absurd (show p ∈ ([] : List (Addr × Obj)) from hp) (by simp)⟩
    have Dob : ∀ b ∈ [D], ∃ o, s5.heap.get? b = some o ∧ ∀ v, o.data ≠ .cell v := fun b hb => by
      have e : b = D := by simpa using hb
      subst e
      obtain ⟨n, q⟩ := l5
      exact ⟨_, q, fun v z => by cases z⟩
    have I5p : Inv (compCx X (ns ++ cs.map (·.1)) scope (D + 1) s2 H2 fp) (pinsAt [D] s5.heap) σ5 H5 s5 := by
      have q := I5.pinned (fp := [D]) (fun b hb => by have e : b = D := by simpa using hb
                                                      subst e; exact Dp) Dob
      rw [List.nil_append] at q
      exact q
    have ner : ∀ b ∈ fp, ∀ p ∈ pinsAt [D] s5.heap, p.1 ≠ b := fun b hb p hp z => by
      have e : p.1 = D := by simpa using (of_pinsAt hp).1
      exact fpD b hb (z.symm.trans e)
    have fp5' : ∀ b ∈ fp, FpOk (compCx X (ns ++ cs.map (·.1)) scope (D + 1) s2 H2 fp) (pinsAt [D] s5.heap) H5 b := fun b hb => ⟨fr5 b hb, nC b hb, I4.ok.exfs b hb, .inl hb, (I4.ok.exf b hb).2, fun p hp => ner b hb p (by simpa [compCx] using hp)⟩
    have lenR : vs.length = es.length := r5.length
    have lenV : vs.length = its.length := v5.length
    by_cases hlt : i < ds.length
    · refine thn (T.item (compCx X (ns ++ cs.map (·.1)) scope (D + 1) s2 H2 fp) rfl rfl rfl hc i (pinsAt [D] s5.heap) s5 σ5 H5 _ I5p fp5' t5 (wk.go i H5 e5 hlt)) fun r s6 ⟨u, hr, h6⟩ => ?_
      subst hr
      refine thn h6 fun _ s7 ⟨xv, H7, I7, r7, y7, t7, fr7⟩ => ?_
      obtain ⟨e57, d, hd, rd⟩ := wk.yld i H5 xv H7 e5 hlt y7
      rw [drop_cons hd] at hz
      have I7p := I7.pinned (fp := fp) (fun b hb => ⟨fr7 b hb, nC b hb, I4.ok.exfs b hb, .inl hb, (I4.ok.exf b hb).2, fun p hp => ner b hb p (by simpa [compCx] using hp)⟩) (T.obj _ _ t7)
      have fin : ∀ {σ8 : L2.St} {H8 : Hp} {s8 : Shared}, Inv (compCx X (ns ++ cs.map (·.1)) scope (D + 1) s2 H2 fp) (pinsAt [D] s5.heap ++ pinsAt fp s7.heap) σ8 H8 s8 → tn (i + 1) s8.heap ∧ (∀ b ∈ fp, H8 b = none) ∧ H8 D = none ∧ LAt s8.heap D its := fun {σ8 H8 s8} I8 => by
        refine ⟨T.keep _ _ _ t7 fun b hb o e => (I8.pin (b, o) (List.mem_append_right _ (List.mem_append_right _ (mem_pinsAt hb e)))).1, fun b hb => ?_, ?_, ?_⟩
        · obtain ⟨o, e, _⟩ := T.obj _ _ t7 b hb
          exact (I8.pin (b, o) (List.mem_append_right _ (List.mem_append_right _ (mem_pinsAt hb e)))).2.1
        · obtain ⟨n, q⟩ := l5
          exact (I8.pin (D, _) (List.mem_append_right _ (List.mem_append_left _ (mem_pinsAt (by simp) q)))).2.1
        · obtain ⟨n, q⟩ := l5
          exact ⟨n, (I8.pin (D, _) (List.mem_append_right _ (List.mem_append_left _ (mem_pinsAt (by simp) q)))).1⟩
      unfold mapG at hz
      match hb : b d (capG ns.length cs ρ) with
      | none => rw [hb] at hz; exact hz.elim
      | some ρd =>
        rw [hb] at hz
        dsimp only at hz
        refine wpAny_mono ((htg (D + 1) s2 H2 fp).h _ s7 σ5 H7 xv u d (capG ns.length cs ρ) ρd I7p r7 rd (E5.mono e57) hb) (fun _ s8 ⟨σ8, H8, I8, e78, E8⟩ => ?_) fun _ _ z => False.elim z
        have e58 := e57.trans e78
        have back : ∀ {σ9 : L2.St} {H9 : Hp}, Envs X.K H9 σ9 ρd → Envs X.K H9 σ9 (capG ns.length cs ρ) := fun {σ9 H9} E9 => by
          have q := Envs.fgt js E9
          rw [hback ρ d ρd hb] at q
          exact q
        have took : ∀ {H9 : Hp} {s9 : Shared}, Inv (compCx X (ns ++ cs.map (·.1)) scope (D + 1) s2 H2 fp) (pinsAt [D] s5.heap ++ pinsAt fp s7.heap) σ8 H9 s9 → Same H8 H9 →
            (match (match fe ρd with | some (.ok y) => (match mapG b tst fe (capG ns.length cs ρ) (ds.drop (i + 1)) with | some ys => some (y :: ys) | none => none) | _ => none) with | some zs => es ++ zs = ys | none => False) →
            wpAny (model X.prog X.w) X.A (eval elt (compEnvC scope (clOf scope.names X.env []) (D + 1) X.env)) (fun xw s₄ =>
              wpAny (model X.prog X.w) X.A (call (.builtin "list.append") [.ref D, xw]) (fun _ s₅ => ∃ k, k < ds.length - i ∧ CompG X ns cs scope D s2 H2 fp tn ds ys b tst fe ρ k s₅) (notedBy (model X.prog X.w) X.A (compEnvC scope (clOf scope.names X.env []) (D + 1) X.env) fun e s' => RR (.ref D) (D + 1) (.error e) s') s₄) (notedBy (model X.prog X.w) X.A (compEnvC scope (clOf scope.names X.env []) (D + 1) X.env) fun e s' => RR (.ref D) (D + 1) (.error e) s') s9 := fun {H9 s9} I9 e9 hz9 => by
          match hfe : fe ρd, hz9 with
          | none, hz9 => exact hz9.elim
          | some (.exc c), hz9 => exact hz9.elim
          | some (.ok y), hz9 =>
            refine wpAny_mono ((helt (D + 1) s2 H2 fp).h _ s9 σ8 H9 (fun v H10 => Same H9 H10 ∧ Rep X.K H10 y v) I9 ⟨ρd, E8.mono e9, by rw [hfe]; exact fun v H10 e10 r10 => ⟨e10, r10⟩⟩) (fun w s10 ⟨yv, H10, I10, rw10, e10, r10⟩ => ?_) fun _ _ z => False.elim z
            obtain ⟨t10, fr10, D10, l10⟩ := fin I10
            refine lat_append l10 (by omega) fun h11 l11 k11 => ?_
            have I10' : Inv (compCx X (ns ++ cs.map (·.1)) scope (D + 1) s2 H2 fp) (pinsAt fp s7.heap) σ8 H10 s10 := I10.pins_of fun p hp => I10.pin p (List.mem_append_right _ (List.mem_append_right _ hp))
            have I11 : Inv (compCx X (ns ++ cs.map (·.1)) scope (D + 1) s2 H2 fp) (pinsAt fp s7.heap) σ8 H10 { s10 with heap := h11 } := I10'.turned (t' := s10.toks) k11 D10 DL (.inr (Nat.le_of_eq hD)) Dcell fun p hp z => by
              have hp' : p ∈ pinsAt fp s7.heap := by simpa [compCx] using hp
              exact fpD p.1 (of_pinsAt hp').1 z
            have e80 := e9.trans e10
            refine ⟨ds.length - (i + 1), by omega, i + 1, σ8, H10, es ++ [y], vs ++ [yv], its ++ [w], rfl, hlt, I11.pins_of fun p hp => absurd hp (by simp), back (E8.mono e80), T.keep _ _ _ t10 fun b hb o e => k11 b o (fpD b hb) e, fr10, D10, l11, v5.append (.cons rw10 .nil), (Reps.mono (e58.trans e80) _ _ r5).append ⟨yv, [], rfl, r10, rfl⟩, by rw [List.length_append, List.length_singleton]; omega, e5.trans (e58.trans e80), ?_⟩
            match hm2 : mapG b tst fe (capG ns.length cs ρ) (ds.drop (i + 1)), hz9 with
            | none, hz9 => exact hz9.elim
            | some zs, hz9 => dsimp only at hz9 ⊢; rw [List.append_assoc]; exact hz9
        have hif := hifs (D + 1) s2 H2 fp
        cases tst with
        | none =>
          cases (show ifs = [] from hif)
          exact wpAny_tests_nil (by rw [if_pos rfl]; exact took I8 (.refl H8) hz)
        | some t =>
          obtain ⟨c, rfl, hct⟩ := hif
          match htt : t ρd, hz with
          | none, hz => simp only [htt] at hz
          | some (.exc c), hz => simp only [htt] at hz
          | some (.ok true), hz =>
            simp only [htt] at hz
            refine wpAny_tests_one (wpAny_mono (hct.h _ s8 σ8 H8 (fun b H9 => b = true ∧ Same H8 H9) I8 ⟨_, E8, by rw [htt]; exact fun H9 e9 => ⟨rfl, e9⟩⟩) (fun b s9 ⟨H9, I9, hb, e9⟩ => ?_) fun _ _ z => False.elim z)
            subst hb
            rw [if_pos rfl]
            exact took I9 e9 hz
          | some (.ok false), hz =>
            simp only [htt] at hz
            refine wpAny_tests_one (wpAny_mono (hct.h _ s8 σ8 H8 (fun b H9 => b = false ∧ Same H8 H9) I8 ⟨_, E8, by rw [htt]; exact fun H9 e9 => ⟨rfl, e9⟩⟩) (fun b s9 ⟨H9, I9, hb, e9⟩ => ?_) fun _ _ z => False.elim z)
            subst hb
            rw [if_neg Bool.false_ne_true]
            obtain ⟨t9, fr9, D9, l9⟩ := fin I9
            exact ⟨ds.length - (i + 1), by omega, i + 1, σ8, H9, es, vs, its, rfl, hlt, I9.pins_of fun p hp => absurd hp (by simp), back (E8.mono e9), t9, fr9, D9, l9, v5, Reps.mono (e58.trans e9) _ _ r5, by omega, e5.trans (e58.trans e9), hz⟩
    · have hi' : i = ds.length := by omega
      subst hi'
      rw [List.drop_length] at hz
      have hz' : es ++ [] = ys := hz
      rw [List.append_nil] at hz'
      subst hz'
      refine thn (T.done (compCx X (ns ++ cs.map (·.1)) scope (D + 1) s2 H2 fp) rfl rfl rfl hc ds.length (pinsAt [D] s5.heap) s5 σ5 H5 _ I5p fp5' t5 (wk.stop H5 e5)) fun r s6 ⟨hr, I6⟩ => ?_
      subst hr
      have l6 : LAt s6.heap D its := by
        obtain ⟨n, q⟩ := l5
        exact ⟨n, (I6.pin (D, _) (List.mem_append_right _ (mem_pinsAt (by simp) q))).1⟩
      obtain ⟨m6, n6, _⟩ := I6.loc
      have C6 : H5 (D + 1) = none := I6.free
      have new : ObjOk X.prog X.w (upd H5 D (.lst vs)) s6.heap D (.lst vs) := by
        obtain ⟨n, q⟩ := l6
        exact ⟨by rw [lenR]; exact le_line hyl, its, n, v5, q⟩
      have u6 : Un (frs X.stack) fp H2 H5 s2.heap s6.heap := I6.base
      have nD : ∀ b o, s2.heap.get? b = some o → b ≠ D := fun b o e => by
        have hb : b < D := by rw [← hD]; exact Heap.lt_size e
        exact ad_ne hb
      have u7 : Un (frs X.stack) fp H2 (upd H5 D (.lst vs)) s2.heap s6.heap := ⟨u6.keep, u6.slot, fun b o e n hx => by rw [upd_ne (nD b o e)]; exact u6.free b o e n hx, u6.there, fun b xs q => by
          have q' := u6.tups b xs q
          rw [upd_ne (ne_of_none q' D5)]; exact q', fun b o u q => by
          have q' := u6.frzs b o u q
          rw [upd_ne (ne_of_none q' D5)]; exact q', fun b ps q => by
          obtain ⟨more, q'⟩ := u6.tbls b ps q
          exact ⟨more, by rw [upd_ne (ne_of_none q' D5)]; exact q'⟩⟩
      have I7 : Inv X pins σ (upd H5 D (.lst vs)) s6 := I2.call' (s' := s6) (ch := fp) I6.os u7 (HOk.add I6.hok D5 C6 (fun b u _ q => q) new) I6.bare fun b hb => ⟨(f2 b hb).2.2.2.1, (f2 b hb).2.1, (f2 b hb).2.2.2.2.1, (f2 b hb).2.2.2.2.2⟩
      exact hRR D (D + 1) s6 H5 vs m6 I7 D5 e5 r5 n6 C6 (Ne.symm ad_s) (by rw [hD]; exact Nat.le_succ D)
  exact codeAny_compStart_list (loop _ rfl) (T.self _ 0 _ _ _ (T.keep _ _ _ st2 fun b hb o e => old b o e) (loop _ rfl))
end FD
namespace FD
open PySem PySem.Spec PyProof.Rows L2
def fCompG (m : Nat) (cs : List (Str × Nat)) (src : FnA) (b : Dv → Ev → Option Ev) (tst : Option FnB) (elt : FnE) : FnE := fun ρ => bnd (src ρ) fun ds => match mapG b tst elt (capG m cs ρ) ds with
  | some ys => if ys.length ≤ 100000 ∧ ds.length ≤ 100000 then some (.ok (.lst ys)) else none
  | none => none
theorem keyG {m : Nat} {cs : List (Str × Nat)} {src : FnA} {b : Dv → Ev → Option Ev} {tst : Option FnB} {fe : FnE} {ρ : Ev} {o : Rs Dv} (h : fCompG m cs src b tst fe ρ = some o) :
    (∃ c, src ρ = some (.exc c) ∧ o = .exc c) ∨ ∃ ds ys, src ρ = some (.ok ds) ∧ mapG b tst fe (capG m cs ρ) ds = some ys ∧ ds.length ≤ 100000 ∧ ys.length ≤ 100000 ∧ o = .ok (.lst ys) := by
  unfold fCompG at h
  match hf : src ρ with
  | none => rw [hf] at h; cases h
  | some (.exc c) => rw [hf] at h; cases h; exact .inl ⟨c, rfl, rfl⟩
  | some (.ok ds) =>
    rw [hf] at h
    dsimp only [bnd] at h
    match hm : mapG b tst fe (capG m cs ρ) ds with
    | none => rw [hm] at h; cases h
    | some ys =>
      rw [hm] at h
      dsimp only at h
      split at h
      · rename_i hl
        cases h
        exact .inr ⟨ds, ys, rfl, hm, hl.2, hl.1, rfl⟩
      · cases h
theorem fe_compG {X : Cx} {tg elt iter : Expr} {ifs : List Expr} {scope : Scope} {pos : Pos} {src : FnA} {tst : Option FnB} {fe : FnE} {b : Dv → Ev → Option Ev} (osc : Scope) (N ns : List Str) (js : List Nat) (cs : List (Str × Nat)) (hosc : X.env.scope = osc) (hN : X.N = N) (ok : CompOkG osc scope cs N) (hcl : closureFor scope X.env = pure (clOf scope.names X.env [])) (hc : X.calm = true)
    (hback : ∀ ρ d ρ', b d (capG ns.length cs ρ) = some ρ' → fgt js ρ' = capG ns.length cs ρ)
    (hi : FIG X tg iter src) (htg : ∀ C s H fp, FG (compCx X (ns ++ cs.map (·.1)) scope C s H fp) tg b) (helt : ∀ C s H fp, FE (compCx X (ns ++ cs.map (·.1)) scope C s H fp) elt fe) (hifs : ∀ C s H fp, FIfs (compCx X (ns ++ cs.map (·.1)) scope C s H fp) ifs tst)
    (hs : ∀ x, foldedSetIterable iter X.env x = pure x := by intro _; kernel_rfl) : FE X (.ListComp elt [⟨tg, iter, ifs, 0⟩] scope pos) (fCompG ns.length cs src b tst fe) := by
  subst hosc hN
  constructor
  intro pins s σ H Q I h
  obtain ⟨ρ, E, o⟩ := h
  match ho : fCompG ns.length cs src b tst fe ρ with
  | none => rw [ho] at o; exact o.elim
  | some r =>
    rw [ho] at o
    rw [eval_ListComp]
    have key : OutG X H (src ρ) fun J H' => ∃ ds ys, Same H H' ∧ WkG X.K J ds H' ∧ ds.length ≤ 100000 ∧ ys.length ≤ 100000 ∧ mapG b tst fe (capG ns.length cs ρ) ds = some ys ∧ (∀ v H'', Same H' H'' → Rep X.K H'' (.lst ys) v → Q v H'') := by
      rcases keyG ho with ⟨c, e1, e2⟩ | ⟨ds, ys, e1, e2, l1, l2, e3⟩
      · subst e2; rw [e1]; exact o
      · subst e3; rw [e1]; exact fun J H' e wk => ⟨ds, ys, e, wk, l1, l2, e2, fun v H'' e2 r => o v H'' (e.trans e2) r⟩
    refine wpAny_comprehension_free (use := none) rfl hs hcl ok.kind ok.names (thn (hi.h pins s σ H _ I ⟨ρ, E, key⟩) fun v s1 h1 => thn h1 fun itv s2 h2 => ?_)
    obtain ⟨it, fp, tn, J, H2, e, I2, T, st2, f2, ds, ys, e12, wk, hdl, hyl, hm, hQ⟩ := h2
    subst e
    refine comp_core cs ok hc htg helt hifs hback (E.mono e12) I2 T st2 f2 wk hdl hyl hm (RR := fun acc C => compPost (model X.prog X.w) X.A X.xe none (EP X pins σ Q) acc C) fun D C s6 H5 vs m6 I6 D5 e5 r5 n6 C6 CD hC => ?_
    refine ⟨m6, n6, fun h7 sb7 => ?_⟩
    have Cn : (upd H5 D (.lst vs)) C = none := by rw [upd_ne CD]; exact C6
    obtain ⟨q0, q1, q2, q3, q4, q5⟩ := I2.fpOk hC Cn
    have I7 : Inv X pins σ (upd H5 D (.lst vs)) { s6 with heap := h7 } := I6.turned (t' := s6.toks) (fun b o hb e => sb7.extBut b o hb e) q0 q1 q3 q4 q5
    exact ⟨.ref D, _, I7, rfl, hQ _ _ (e5.trans (same_new D5 _)) ⟨D, vs, rfl, upd_same, Reps.mono (same_new D5 _) _ _ r5⟩⟩
theorem back1 (cs : List (Str × Nat)) (ρ : Ev) (d : Dv) (ρ' : Ev) (h : gN 0 d (capG 1 cs ρ) = some ρ') : fgt [0] ρ' = capG 1 cs ρ := by
  cases h
  rfl
theorem back2 (cs : List (Str × Nat)) (ρ : Ev) (d : Dv) (ρ' : Ev) (h : gP 0 1 d (capG 2 cs ρ) = some ρ') : fgt [0, 1] ρ' = capG 2 cs ρ := by
  unfold gP at h
  split at h
  · cases h
    rfl
  · cases h
def enumL : Nat → List Dv → List Dv
  | _, [] => []
  | k, d :: ds => .tup [.int k, d] :: enumL (k + 1) ds
theorem enumL_length : ∀ (ds : List Dv) (k : Nat), (enumL k ds).length = ds.length
  | [], _ => rfl
  | d :: ds, k => by show (enumL (k + 1) ds).length + 1 = ds.length + 1; rw [enumL_length]
theorem enumL_get : ∀ (ds : List Dv) (k i : Nat) (d : Dv), ds[i]? = some d → (enumL k ds)[i]? = some (.tup [.int ((k + i : Nat) : Int), d])
  | [], _, _, _, h => by simp at h
  | d :: ds, k, 0, d', h => by simp at h; subst h; rfl
  | d :: ds, k, i + 1, d', h => by
    have q := enumL_get ds (k + 1) i d' (by simpa using h)
    show (Dv.tup [.int k, d] :: enumL (k + 1) ds)[i + 1]? = _
    rw [List.getElem?_cons_succ, q]
    have e : k + 1 + i = k + (i + 1) := by omega
    rw [e]
end FD
namespace FD
open PySem PySem.Spec PyProof.Rows L2
section
variable {X : Cx} {pos p1 : Pos}
end
theorem fSeq_nx {a b : FnS} {ρ ρ' : Ev} (h : a ρ = some (.nx ρ')) : fSeq a b ρ = b ρ' := by
  unfold fSeq; rw [h]; rfl
theorem fSeq_rt {a b : FnS} {ρ : Ev} {d : Dv} (h : a ρ = some (.rt d)) : fSeq a b ρ = some (.rt d) := by
  unfold fSeq; rw [h]; rfl
theorem ifS_skip {c : FnB} {f : FnS} {ρ : Ev} (h : c ρ = some (.ok false)) : fIfS c f (fun ρ => some (.nx ρ)) ρ = some (.nx ρ) := by
  unfold fIfS; rw [h]; rfl
theorem fSet_nx {i : Nat} {v : FnE} {ρ ρ' : Ev} {d : Dv} (h : v ρ = some (.ok d)) (e : ρ.set i (some d) = ρ') : fSet i v ρ = some (.nx ρ') := by
  unfold fSet; rw [h, ← e]; rfl
theorem fDrop_nx {v : FnE} {ρ : Ev} {d : Dv} (h : v ρ = some (.ok d)) : fDrop v ρ = some (.nx ρ) := by
  unfold fDrop; rw [h]; rfl
theorem fRet_rt {v : FnE} {ρ : Ev} {d : Dv} (h : v ρ = some (.ok d)) : fRet v ρ = some (.rt d) := by
  unfold fRet; rw [h]; rfl
theorem fFor_of {i : Nat} {js : List Nat} {src : FnA} {body : FnS} {ρ : Ev} {ds : List Dv} (h : src ρ = some (.ok ds)) : fFor i js src body ρ = loopF i js body ds ρ := by
  unfold fFor; rw [h]; rfl
theorem bOr_F {a b : FnB} {ρ : Ev} (h : a ρ = some (.ok false)) : bOr a b ρ = b ρ := by unfold bOr; rw [h]; rfl
theorem bOr_T {a b : FnB} {ρ : Ev} (h : a ρ = some (.ok true)) : bOr a b ρ = some (.ok true) := by unfold bOr; rw [h]; rfl
theorem bAnd_T {a b : FnB} {ρ : Ev} (h : a ρ = some (.ok true)) : bAnd a b ρ = b ρ := by unfold bAnd; rw [h]; rfl
theorem bAnd_F {a b : FnB} {ρ : Ev} (h : a ρ = some (.ok false)) : bAnd a b ρ = some (.ok false) := by unfold bAnd; rw [h]; rfl
theorem bNot_of {a : FnB} {ρ : Ev} {k : Bool} (h : a ρ = some (.ok k)) : bNot a ρ = some (.ok (!k)) := by unfold bNot; rw [h]; rfl
theorem fB_of {f : FnE} {ρ : Ev} {k : Bool} (h : f ρ = some (.ok (.bl k))) : fB f ρ = some (.ok k) := by unfold fB; rw [h]; rfl
theorem f2_of {g : Dv → Dv → Option (Rs Dv)} {f h : FnE} {ρ : Ev} {x y : Dv} (hf : f ρ = some (.ok x)) (hh : h ρ = some (.ok y)) : f2 g f h ρ = g x y := by unfold f2; rw [hf, hh]; rfl
theorem aCons_of {f : FnE} {g : FnA} {ρ : Ev} {x : Dv} {xs : List Dv} (h : f ρ = some (.ok x)) (t : g ρ = some (.ok xs)) : aCons f g ρ = some (.ok (x :: xs)) := by unfold aCons; rw [h, t]; rfl
theorem aNil_of {ρ : Ev} : aNil ρ = some (.ok []) := rfl
theorem fCall_of {F : List Dv → Option (Rs Dv)} {n : Nat} {g : FnA} {ρ : Ev} {ds : List Dv} {d : Dv} (h : g ρ = some (.ok ds)) (hl : ds.length = n) (hF : F ds = some (.ok d)) : fCall F n g ρ = some (.ok d) := by
  unfold fCall; rw [h]
  show (if _ then _ else _) = _
  rw [if_pos hl, hF]
theorem call1 (F : List Dv → Option (Rs Dv)) {f : FnE} {ρ : Ev} {a d : Dv} (h : f ρ = some (.ok a)) (hF : F [a] = some (.ok d)) : fCall F 1 (aCons f aNil) ρ = some (.ok d) := fCall_of (aCons_of h aNil_of) rfl hF
theorem call2 (F : List Dv → Option (Rs Dv)) {f g : FnE} {ρ : Ev} {a b d : Dv} (h : f ρ = some (.ok a)) (h' : g ρ = some (.ok b)) (hF : F [a, b] = some (.ok d)) : fCall F 2 (aCons f (aCons g aNil)) ρ = some (.ok d) := fCall_of (aCons_of h (aCons_of h' aNil_of)) rfl hF
theorem fTup_of {g : FnA} {ρ : Ev} {ds : List Dv} (h : g ρ = some (.ok ds)) (hl : ds.length ≤ 100000) : fTup g ρ = some (.ok (.tup ds)) := by
  unfold fTup; rw [h]
  show (if _ then _ else _) = _
  rw [if_pos hl]
theorem vAnd_F {f g : FnE} {ρ : Ev} (h : f ρ = some (.ok (.bl false))) : vAnd f g ρ = some (.ok (.bl false)) := by unfold vAnd; rw [h]; rfl
theorem vAnd_T {f g : FnE} {ρ : Ev} (h : f ρ = some (.ok (.bl true))) : vAnd f g ρ = g ρ := by unfold vAnd; rw [h]; rfl
theorem fB1_of {g : List Dv → Option (Rs Dv)} {a : FnA} {ρ : Ev} {ds : List Dv} (h : a ρ = some (.ok ds)) : fB1 g a ρ = g ds := by unfold fB1; rw [h]; rfl
theorem fIf_T {c : FnB} {f g : FnE} {ρ : Ev} (h : c ρ = some (.ok true)) : fIf c f g ρ = f ρ := by unfold fIf; rw [h]; rfl
theorem fIf_F {c : FnB} {f g : FnE} {ρ : Ev} (h : c ρ = some (.ok false)) : fIf c f g ρ = g ρ := by unfold fIf; rw [h]; rfl
theorem fLst_of {g : FnA} {ρ : Ev} {ds : List Dv} (h : g ρ = some (.ok ds)) (hl : ds.length ≤ 100000) : fLst g ρ = some (.ok (.lst ds)) := by
  unfold fLst; rw [h]
  show (if _ then _ else _) = _
  rw [if_pos hl]
theorem run_rt {n : Nat} {B : FnS} {ds : List Dv} {d : Dv} (h : B (ds.map some ++ List.replicate (n - ds.length) none) = some (.rt d)) : runF n B ds = some (.ok d) := by
  unfold runF; rw [h]
end FD
namespace FD
open PySem PySem.Spec PyProof.Rows L2
section
variable {prog : Program} {w : World} {A : Around} {E : Value → Shared → Prop}
end
section
variable {X : Cx} {pos p1 : Pos}
end
end FD
namespace FD
open PySem PySem.Spec PyProof.Rows L2
structure Aft (X : Cx) (e : Addr) (Ts : List Addr) (h h' : Heap) : Prop where
  keep : ∀ b o, h.get? b = some o → b ≠ e → b ∉ Ts → b ∉ frs X.stack → h'.get? b = some o
  slot : ∀ b o, h.get? b = some o → b ∈ frs X.stack → ∃ sl, h'.get? b = some { o with slots := sl }
section
variable {X : Cx} {pins : List (Addr × Obj)} {σ : L2.St} {H : Hp} {s : Shared} {e : Addr} {Ts : List Addr} {h' : Heap}
theorem Aft.any {h : Heap} (A : Aft X e Ts h h') {b : Addr} {o : Obj} (q : h.get? b = some o) (n1 : b ≠ e) (n2 : b ∉ Ts) : ∃ sl, h'.get? b = some { o with slots := sl } := by
  by_cases hb : b ∈ frs X.stack
  · exact A.slot b o q hb
  · exact ⟨o.slots, A.keep b o q n1 n2 hb⟩
theorem Inv.aft (I : Inv X pins σ H s) (A : Aft X e Ts s.heap h') (hex : X.ex = []) (hf : ∀ b, b = e ∨ b ∈ Ts → H b = none ∧ X.s₀.heap.get? b = none ∧ (∀ p ∈ X.pn ++ pins, p.1 ≠ b) ∧ ∃ o vs, s.heap.get? b = some o ∧ o.data = .fields vs) :
    Inv X pins σ H { s with heap := h' } := by
  have nE : ∀ b, H b ≠ none → b ≠ e ∧ b ∉ Ts := fun b hb => ⟨fun z => hb (hf b (.inl z)).1, fun z => hb (hf b (.inr z)).1⟩
  have n0 : ∀ b o, X.s₀.heap.get? b = some o → b ≠ e ∧ b ∉ Ts := fun b o hb => ⟨fun z => (by simp : (some o : Option Obj) ≠ none) (hb.symm.trans (hf b (.inl z)).2.1), fun z => (by simp : (some o : Option Obj) ≠ none) (hb.symm.trans (hf b (.inr z)).2.1)⟩
  have nx : ∀ b, b ∉ X.ex := fun b => by rw [hex]; simp
  have nD : ∀ b o, s.heap.get? b = some o → (∀ vs, o.data ≠ .fields vs) → b ≠ e ∧ b ∉ Ts := fun b o hb hd =>
    have go : (b = e ∨ b ∈ Ts) → False := fun z => by
      obtain ⟨o', vs, q, d⟩ := (hf b z).2.2.2
      rw [hb] at q
      cases q
      exact hd vs d
    ⟨fun z => go (.inl z), fun z => go (.inr z)⟩
  have nS : ∀ b ∈ frs X.stack, H b = none := I.stkFree
  have cellK : ∀ c v, s.heap.IsCell c v → h'.IsCell c v := fun c v ⟨o, ho, hd⟩ => by
    obtain ⟨n1, n2⟩ := nD c o ho fun vs q => by rw [hd] at q; cases q
    obtain ⟨sl, q⟩ := A.any ho n1 n2
    exact ⟨_, q, hd⟩
  refine ⟨I.ok, I.os, I.bare, ⟨fun b o q n hb hx => ?_, fun b o q n hb hx => ?_, I.base.free, fun b o q hx => ?_, I.base.tups, I.base.frzs, I.base.tbls⟩, ?_, fun x c q => ?_, I.free, I.freeC, fun p hp => ?_, fun a o q => ?_, I.len⟩
  · have h1 := I.base.keep b o q n hb hx
    obtain ⟨n1, n2⟩ := n0 b o q
    refine A.keep b o h1 n1 n2 fun z => ?_
    rcases List.mem_cons.mp (I.stkSub b z) with z | z
    · exact absurd z (Nat.ne_of_lt (Nat.lt_of_lt_of_le (Heap.lt_size q) I.ok.above))
    · exact hb z
  · obtain ⟨sl, h1⟩ := I.base.slot b o q n hb hx
    obtain ⟨n1, n2⟩ := n0 b o q
    obtain ⟨sl', h2⟩ := A.any h1 n1 n2
    exact ⟨sl', h2⟩
  · obtain ⟨o', h1⟩ := I.base.there b o q hx
    obtain ⟨n1, n2⟩ := n0 b o q
    obtain ⟨sl, h2⟩ := A.any h1 n1 n2
    exact ⟨_, h2⟩
  · obtain ⟨m, ⟨o, es, ep, ho, hd, r⟩, hl⟩ := I.loc
    obtain ⟨n1, n2⟩ := nD _ o ho fun vs q => by rw [hd] at q; cases q
    obtain ⟨sl, q⟩ := A.any ho n1 n2
    refine ⟨m, ⟨_, es, ep, q, hd, r⟩, fun i x v e1 e2 e3 => ?_⟩
    obtain ⟨u, ru, l⟩ := hl i x v e1 e2 e3
    refine ⟨u, ru, ?_⟩
    rcases l with l | ⟨k, c, ec, z⟩
    · exact .inl l
    · exact .inr ⟨k, c, ec, cellK c _ z⟩
  · obtain ⟨v, z⟩ := I.cell x c q
    exact ⟨v, cellK c v z⟩
  · obtain ⟨q, n, ne, nf, d⟩ := I.pin p hp
    have n1 : p.1 ≠ e := (hf e (.inl rfl)).2.2.1 p hp
    have n2 : p.1 ∉ Ts := fun z => (hf p.1 (.inr z)).2.2.1 p hp rfl
    refine ⟨A.keep p.1 p.2 q n1 n2 fun z => ?_, n, ne, nf, d⟩
    rcases List.mem_cons.mp (I.stkSub _ z) with z | z
    · exact ne z
    · exact nf z
  · refine (I.hok a o q).stay (fun b u hb hu => ?_) (fun _ z => z) fun _ _ z => z
    have hn : H b ≠ none := by
      rcases hb with rfl | hb
      · rw [q]; simp
      · rw [hb]; simp
    exact A.keep b u hu (nE b hn).1 (nE b hn).2 fun z => hn (nS b z)
abbrev hid (X : Cx) (e : Addr) (Ts : List Addr) (h : Heap) : Heap := PySem.W.hideAll h (e :: (Ts ++ frs X.stack))
theorem aft_of (I : Inv X pins σ H s) (k : (hid X e Ts s.heap).StaysIn h') (u : ∀ b o, s.heap.get? b = some o → (∀ vs, o.data ≠ .fields vs) → ∃ sl, h'.get? b = some { o with slots := sl }) : Aft X e Ts s.heap h' :=
  ⟨fun b o q n1 n2 n3 => k b o (PySem.W.hideAll_get _ q (by simp only [List.mem_cons, List.mem_append]; rintro (z | z | z); exact n1 z; exact n2 z; exact n3 z)), fun b o q hb => by
    obtain ⟨_, o', q', d⟩ := I.stack.mem hb
    rw [q] at q'
    cases q'
    exact u b o q d⟩
theorem hid_fun (I : Inv X pins σ H s) : s.heap.FunFrames (hid X e Ts s.heap) X.stack :=
  PySem.W.funFrames_hide I.stack fun env he a hfa => List.mem_cons_of_mem _ (List.mem_append_right _ (List.mem_filterMap.mpr ⟨env, he, hfa⟩))
end
end FD
namespace FD
open PySem PySem.Spec PyProof.Rows L2
section
variable {X : Cx} {pins : List (Addr × Obj)} {σ : L2.St} {H : Hp} {s : Shared} {e : Addr} {cls : Value}
theorem Fly.imp {N N' : Addr → Prop} {h : Heap} (F : Fly N H e cls h) (k : ∀ a, N a → N' a) : Fly N' H e cls h := by
  obtain ⟨h1, h2, oe, vs, a0, q1, q2, q3, q4, q5⟩ := F
  refine ⟨h1, k _ h2, oe, vs, a0, q1, q2, q3, q4, ?_⟩
  rcases q5 with q5 | ⟨T, oT, ts, r1, r2, r3, r4, r5⟩
  · exact .inl q5
  · exact .inr ⟨T, oT, ts, r1, r2, r3, k _ r4, r5⟩
theorem new_of {h' : Heap} {Ts : List Addr} (I : Inv X pins σ H s) (hex : X.ex = []) (he : H e = none ∧ X.s₀.heap.get? e = none) (hT : ∀ T ∈ Ts, H T = none ∧ X.s₀.heap.get? T = none) (ff : h'.FunFrames (hid X e Ts s.heap) X.stack)
    {T : Addr} {oT : Obj} {ts : Array Value} (hn : (hid X e Ts s.heap).get? T = none) (ne : T ≠ e) (hg : h'.get? T = some oT) (hd : oT.data = .fields ts) : H T = none ∧ X.s₀.heap.get? T = none := by
  have nf : T ∉ frs X.stack := fun z => by
    obtain ⟨_, o, q, d⟩ := ff.mem z
    rw [hg] at q
    cases q
    exact d ts hd
  have out : T ∈ Ts ∨ s.heap.get? T = none := by
    cases q : s.heap.get? T with
    | none => exact .inr rfl
    | some o =>
      by_cases hm : T ∈ Ts
      · exact .inl hm
      · have := PySem.W.hideAll_get (e :: (Ts ++ frs X.stack)) q (by simp only [List.mem_cons, List.mem_append]; rintro (z | z | z); exact ne z; exact hm z; exact nf z)
        rw [hn] at this
        cases this
  rcases out with hm | hm
  · exact hT T hm
  · constructor
    · cases q : H T with
      | none => rfl
      | some u =>
        have hk := I.hok T u q
        exfalso
        have : ∃ o, s.heap.get? T = some o := by
          clear q
          induction u with
          | lst xs => obtain ⟨_, _, _, _, z⟩ := hk; exact ⟨_, z⟩
          | tup xs => obtain ⟨_, _, _, o, z, _⟩ := hk; exact ⟨_, z⟩
          | dK kvs => obtain ⟨_, _, _, _, o, _, _, z, _⟩ := hk; exact ⟨_, z⟩
          | dT kvs => obtain ⟨_, _, _, _, o, _, _, z, _⟩ := hk; exact ⟨_, z⟩
          | set S n => obtain ⟨o, _, _, _, z, _⟩ := hk; exact ⟨_, z⟩
          | ins C dx fs => obtain ⟨_, _, _, z, _⟩ := hk; exact ⟨_, z⟩
          | own y => obtain ⟨_, z⟩ := hk; exact ⟨_, z⟩
          | xd fs => obtain ⟨_, ⟨_, _, _, z, _⟩, _⟩ := hk; exact ⟨_, z⟩
          | rng lo hi => obtain ⟨_, _, _, z⟩ := hk; exact ⟨_, z⟩
          | frz ob u ih => obtain ⟨z, _⟩ := hk; exact ⟨_, z⟩
          | tbl ps => exact ⟨_, (show s.heap.get? T = some _ from hk)⟩
          | met f y => exact ⟨_, (show s.heap.get? T = some _ from hk)⟩
          | ext φ => obtain ⟨_, ⟨_, z⟩, _⟩ := hk; exact ⟨_, z⟩
        obtain ⟨o, z⟩ := this
        rw [hm] at z
        cases z
    · cases q : X.s₀.heap.get? T with
      | none => rfl
      | some o =>
        obtain ⟨o', z⟩ := I.base.there T o q (by rw [hex]; simp)
        rw [hm] at z
        cases z
theorem leave_fly (I : Inv X pins σ H s) (hex : X.ex = []) (hst : X.stack = X.env :: X.outer) (hfm : X.env.frame = some X.env.locals) (F : Fly (fun a => X.s₀.heap.get? a = none) H e cls s.heap)
    {Q : Unit → Shared → Prop} {E : Value → Shared → Prop} (k : ∀ h' Ts, Fly (fun a => X.s₀.heap.get? a = none) H e cls h' → Aft X e Ts s.heap h' → (∀ b, b = e ∨ b ∈ Ts → H b = none ∧ X.s₀.heap.get? b = none ∧ ∃ o vs, s.heap.get? b = some o ∧ o.data = .fields vs) → Q () { s with heap := h' }) :
    wpAny (model X.prog X.w) X.A (leaving X.env (.ref e)) Q E s := by
  obtain ⟨f1, f2, oe, vs, a0, q1, q2, q3, q4, q5⟩ := F
  have hfr : X.A.frames = some (X.env :: X.outer) := hst ▸ I.ok.frames
  subst q2
  rcases q5 with q5 | ⟨T, oT, ts, r1, r2, r3, r4, r5, r6, r7⟩
  · have b3 : s.heap.FunFrames (hid X e [] s.heap) (X.env :: X.outer) := hst ▸ hid_fun I
    refine wpAny_leaving_firstW (base := hid X e [] s.heap) hfr b3 hfm q1 (fun b o z => PySem.W.of_hideAll _ z) (PySem.W.hideAll_none _ (List.mem_cons_self ..)) q3 q5 q4 fun h' hL => ?_
    obtain ⟨k1, k2, ⟨oe', vs', T, oT, ts, t1, ⟨t2, t3⟩, t4, t5, t6, t7, t8, t9, t10⟩, k4⟩ := hL
    have k2' : h'.FunFrames (hid X e [] s.heap) X.stack := hst ▸ k2
    have nT := new_of I hex ⟨f1, f2⟩ (fun _ z => absurd z (by simp)) k2' t6 t7 t8 t9
    refine k h' [] ⟨f1, f2, oe', vs', a0, t1, t2, t4, t3, .inr ⟨T, oT, ts, t5, t7, nT.1, nT.2, t8, t9, t10⟩⟩ (aft_of I k1 k4) fun b hb => ?_
    rcases hb with rfl | hb
    · exact ⟨f1, f2, oe, vs, q1, q3⟩
    · cases hb
  · have b3 : s.heap.FunFrames (hid X e [T] s.heap) (X.env :: X.outer) := hst ▸ hid_fun I
    have ht : s.heap.TracedW (hid X e [T] s.heap) e oe.cls a0 := ⟨oe, vs, T, oT, ts, q1, ⟨rfl, q4⟩, q3, r1, PySem.W.hideAll_none _ (by simp), r2, r5, r6, r7⟩
    refine wpAny_leaving_nextW (base := hid X e [T] s.heap) hfr b3 hfm ht (fun b o z => PySem.W.of_hideAll _ z) (PySem.W.hideAll_none _ (List.mem_cons_self ..)) fun h' hL => ?_
    obtain ⟨k1, k2, ⟨oe', vs', T', oT', ts', t1, ⟨t2, t3⟩, t4, t5, t6, t7, t8, t9, t10⟩, k4⟩ := hL
    have k2' : h'.FunFrames (hid X e [T] s.heap) X.stack := hst ▸ k2
    have nT := new_of I hex ⟨f1, f2⟩ (fun T0 z => by simp at z; subst z; exact ⟨r3, r4⟩) k2' t6 t7 t8 t9
    refine k h' [T] ⟨f1, f2, oe', vs', a0, t1, t2, t4, t3, .inr ⟨T', oT', ts', t5, t7, nT.1, nT.2, t8, t9, t10⟩⟩ (aft_of I k1 k4) fun b hb => ?_
    rcases hb with rfl | hb
    · exact ⟨f1, f2, oe, vs, q1, q3⟩
    · simp at hb
      subst hb
      exact ⟨r3, r4, oT, ts, r5, r6⟩
end
def CXE (P : Program) (w : World) : CXT := fun outer H s E ev s' => ∃ e cls H', ev = .ref e ∧ s'.os = s.os ∧ AllBare s'.gens ∧ Un (frs outer) [] H H' s.heap s'.heap ∧ HOk P w H' s'.heap ∧ Fly (fun a => s.heap.get? a = none) H' e cls s'.heap ∧ E cls none H'
def spE (K : PySem.W.Frag) (F : List Dv → Option (Rs Dv)) (n : Nat) : Sp := fun vs H Q E => ∃ ds, Reps K H ds vs ∧ ds.length = n ∧ match F ds with
  | some (.ok d) => ∀ v H', Same H H' → Rep K H' d v → Q v H'
  | some (.exc c) => ∀ C H', PySem.W.nsIn K mainGlobals (xnm c) = some (some (.ref C)) → Same H H' → E (.ref C) none H'
  | none => False
def EX (X : Cx) : XK := fun cv _ H1 => ∃ c C, cv = .ref C ∧ PySem.W.nsIn X.K mainGlobals (xnm c) = some (some (.ref C)) ∧ XW X c H1
theorem passE {X : Cx} (hex : X.ex = []) : Passes (CXE X.prog X.w) X (EX X) := by
  intro pins σ H s ev s' I ⟨e, cls, H', he, os, bare, un, hok, F, c, C, hcv, hC, hx⟩
  have I' : Inv X pins σ H' s' := I.call' (ch := []) os un hok bare fun b z => absurd z (by simp)
  refine hx pins σ H' s' ev (fun _ _ z => z) I' ⟨e, C, he, hC, hcv ▸ F.imp fun a ha => ⟨?_, fun p hp z => ?_⟩⟩
  · cases q : X.s₀.heap.get? a with
    | none => rfl
    | some o =>
      obtain ⟨o', z⟩ := I.base.there a o q (by rw [hex]; simp)
      rw [ha] at z
      cases z
  · have := (I.pin p (List.mem_append_left _ hp)).1
    rw [z, ha] at this
    cases this
def fCallE (F : List Dv → Option (Rs Dv)) (n : Nat) (g : FnA) : FnE := fun ρ => bnd (g ρ) fun ds => if ds.length = n then F ds else none
def HasE (P : Program) (w : World) (K : PySem.W.Frag) (mg : Str → Option Value) (base : Heap) (x : Str) (k : Nat) (ps : List Str) (F : List Dv → Option (Rs Dv)) : Prop :=
  ∃ f fd, FnOk P w K mg base (CXE P w) k f fd ps (spE K F ps.length) ∧ mg x = some (.ref f) ∧ PySem.W.keepIn K (.ref f) = true ∧ Binds K fd ps []
section
variable {X : Cx} {k n : Nat} {ps : List Str} {x : Str} {p pos : Pos} {e : Expr} {es : List Expr} {F : List Dv → Option (Rs Dv)} {g : FnA}
theorem fe_callE {k' : Nat} (k : Nat) (ps : List Str) (F : List Dv → Option (Rs Dv)) (h : HasE X.prog X.w X.K X.mg X.base x k ps F) (hr : Room k' X.A) (hk : k ≤ k') (hex : X.ex = []) (hg : Gl X x) (ha : FA X (e :: es) g) (hn : n = ps.length := by kernel_rfl) (hdb : (x == ("__debug__" : Str)) = false := by kernel_rfl)
    (he : starEach (e :: es) X.env = (false, eval e X.env) :: starEach es X.env := by kernel_rfl) (hpl : (backTo pos (starEach es X.env)).any (·.1) = false := by kernel_rfl) :
    FE X (.Call (.Name x p) (e :: es) [] pos) (fCallE F n g) := by
  subst hn
  obtain ⟨f, fd, G, hm, hkp, hb⟩ := h
  refine fe_of (pe_call (G.mono hk) hr hg hm hkp hb .nil (passE hex) ha.h hdb he hpl) fun σ H Q ρ E o => ⟨ρ, E, OutA.bind o fun ds vs H' e rs o1 => ?_⟩
  show spE X.K F ps.length (vs ++ []) H' Q (EX X)
  rw [List.append_nil]
  by_cases hl : ds.length = ps.length
  · rw [if_pos hl] at o1
    refine ⟨ds, rs, hl, ?_⟩
    match hF : F ds with
    | none => rw [hF] at o1; exact o1.elim
    | some (.ok d) => rw [hF] at o1; exact o1
    | some (.exc c) => rw [hF] at o1; exact fun C H1 hC e1 => ⟨c, C, rfl, hC, XW.mono o1 e1⟩
  · rw [if_neg hl] at o1
    exact o1.elim
end
def runE (m : Nat) (fb : FnS) : List Dv → Option (Rs Dv) := fun ds => match fb (ds.map some ++ List.replicate (m - ds.length) none) with
  | some (.nx _) => some (.ok .non)
  | some (.rt d) => some (.ok d)
  | some (.exc c) => some (.exc c)
  | none => none
theorem xw_of {P : Program} {w : World} {K : PySem.W.Frag} {mg : Str → Option Value} {base : Heap} {N : List Str} {qual : Str} {scope : Scope} {f : Addr} {cd : Value} {A : Around} {outer : List Env} {s : Shared} {H : Hp} {E : XK} {c : Nat}
    (q : ∀ C H', PySem.W.nsIn K mainGlobals (xnm c) = some (some (.ref C)) → Same H H' → E (.ref C) none H') : XW (cxOf (CXE P w) P w K mg base N qual scope f cd A outer s H E) c H := by
  intro pins σ H' s1 ev e1 I ⟨e, C, he, hC, F⟩
  subst he
  have F' : Fly (fun a => s.heap.get? a = none) H' e (.ref C) s1.heap := F.imp fun a ha => ha.1
  refine leave_fly I rfl rfl rfl F' fun h' Ts F2 A2 hf => ?_
  have I2 := Inv.aft (pins := []) (I.pins_of (pins' := []) fun p hp => nomatch hp) A2 rfl fun b hb => ⟨(hf b hb).1, (hf b hb).2.1, fun p hp => absurd (show p ∈ ([] : List (Addr × Obj)) from hp) (by simp), (hf b hb).2.2⟩
  exact ⟨e, .ref C, H', rfl, I.os, I.bare, I2.base, I2.hok, F2, q C H' hC e1⟩
theorem fn_okE {k : Nat} {f : Addr} {fd : FuncData} {x : Str} {P : Program} {w : World} {K : PySem.W.Frag} {mg : Str → Option Value} {base : Heap} {qual : Str} {st : Stmt} {F : List Dv → Option (Rs Dv)} {n : Nat} (N ps : List Str) (fb : FnS) (hF : F = runE N.length fb) (hn : n = ps.length)
    (Fn : Fun K x qual st f fd) (S : FnScope N ps (defScope st))
    (hb : ∀ (cdv : Value) (A : Around) (outer : List Env) (s : Shared) (H : Hp) (E : XK), Room k (A.deeper (envOfC qual (defScope st) s.heap.objs.size f cdv)) → FSs (cxOf (CXE P w) P w K mg base N qual (defScope st) f cdv A outer s H E) (defBody st) fb) :
    FnOk P w K mg base (CXE P w) (k + 1) f fd ps (spE K F n) := by
  subst hF hn
  obtain ⟨oc, od, kV, doc, pm, an, cdv, ct, osl, rfl, lk, hcd⟩ := Fn.ex
  refine fn_of lk hcd S (fun vs H Q E h => ?_) fun A outer s H vs Q E hr h => ?_
  · obtain ⟨ds, r, hl, _⟩ := h
    rw [r.length, hl]
  · obtain ⟨ds, r, hl, q⟩ := h
    refine ⟨_, (hb cdv A outer s H E hr).h, ds.map some ++ List.replicate (N.length - ds.length) none, envs_start r, ?_⟩
    unfold runE at q
    match hf : fb (ds.map some ++ List.replicate (N.length - ds.length) none) with
    | none => rw [hf] at q; exact q.elim
    | some (.exc c) => rw [hf] at q; exact xw_of q
    | some (.rt d) => rw [hf] at q; exact fun v H' e r' => q v H' e r'
    | some (.nx ρ) => rw [hf] at q; exact fun σ' H' e _ => q .non H' e rfl
end FD
namespace FD
open PySem PySem.Spec PyProof.Rows L2
theorem tracked_there {P : Program} {w : World} {H : Hp} {h : Heap} (ok : HOk P w H h) {a : Addr} {u : HO} (q : H a = some u) : ∃ o, h.get? a = some o := by
  have hk := ok a u q
  clear q
  induction u with
  | lst xs => obtain ⟨_, _, _, _, z⟩ := hk; exact ⟨_, z⟩
  | tup xs => obtain ⟨_, _, _, o, z, _⟩ := hk; exact ⟨_, z⟩
  | dK kvs => obtain ⟨_, _, _, _, o, _, _, z, _⟩ := hk; exact ⟨_, z⟩
  | dT kvs => obtain ⟨_, _, _, _, o, _, _, z, _⟩ := hk; exact ⟨_, z⟩
  | set S n => obtain ⟨o, _, _, _, z, _⟩ := hk; exact ⟨_, z⟩
  | ins C dx fs => obtain ⟨_, _, _, z, _⟩ := hk; exact ⟨_, z⟩
  | own y => obtain ⟨_, z⟩ := hk; exact ⟨_, z⟩
  | xd fs => obtain ⟨_, ⟨_, _, _, z, _⟩, _⟩ := hk; exact ⟨_, z⟩
  | rng lo hi => obtain ⟨_, _, _, z⟩ := hk; exact ⟨_, z⟩
  | frz ob u ih => obtain ⟨z, _⟩ := hk; exact ⟨_, z⟩
  | tbl ps => exact ⟨_, (show h.get? a = some _ from hk)⟩
  | met f y => exact ⟨_, (show h.get? a = some _ from hk)⟩
  | ext φ => obtain ⟨_, ⟨_, z⟩, _⟩ := hk; exact ⟨_, z⟩
theorem untracked {P : Program} {w : World} {H : Hp} {h : Heap} (ok : HOk P w H h) {a : Addr} (n : h.get? a = none) : H a = none := by
  cases q : H a with
  | none => rfl
  | some u =>
    obtain ⟨o, z⟩ := tracked_there ok q
    rw [n] at z
    cases z
theorem own_in {K : PySem.W.Frag} {h : Heap} {mg : Str → Option Value} {x : Str} {C : Addr} {bmB : List Value} {newId : String} (X : K.In h) (hb : mg x = some (.ref C)) (q : PySem.W.excIn K C bmB newId = true) : OwnCls x C bmB newId mg h := by
  constructor
  · exact hb
  unfold PySem.W.excIn at q
  split at q
  · rename_i dd cd sl look
    split at q
    · rename_i C2 rest s0 s1 s2 s3 nid s5 em es
      simp only [Bool.and_eq_true, beq_iff_eq, Bool.not_eq_true'] at q
      have e1 := q.1.1.1.1.1
      have e2 := q.1.1.1.1.2
      have e3 := q.1.1.1.2
      have e4 := q.1.1.2
      have e5 := q.1.2
      have e6 := q.2
      clear q
      subst e1 e2
      obtain ⟨f1, f2, f3, f4, f5, f6, f7, f8, f9, f10, f11⟩ := cd
      dsimp only at em e3 e5 e6
      subst em e3
      obtain ⟨l⟩ := sl
      have e7 : l = [s0, s1, s2, s3, some (.builtin nid), s5] := es
      subst e7
      refine ⟨rest, f4, f1, f5, f2, f6, f7, f8, f9, f10, dd, s0, s1, s2, s3, s5, _, X _ _ look, .of_isNs (PySem.W.isNs_of_in X e5), ?_, PySem.W.tail_of_in X e4⟩
      exact PySem.W.nsMap_none_of_in X e5 e6
    · cases q
  · cases q
abbrev bmV : List Value := [.type "ValueError", .type "Exception", .type "BaseException", .type "object"]
structure XC (K : PySem.W.Frag) (c : Nat) (C : Addr) : Prop where
  nm : PySem.W.nsIn K mainGlobals (xnm c) = some (some (.ref C))
  ex : PySem.W.excIn K C bmV "ValueError.__new__" = true
def fRaise (c : Nat) (f : FnE) : FnS := fun ρ => bndS (f ρ) fun _ => some (.exc c)
section
variable {X : Cx} {a : Expr} {fa : FnE} {np cpos pos : Pos} {x : Str} {C : Addr}
theorem fs_raise (c : Nat) (K : XC X.K c C) (hx : xnm c = x) (hm : X.mg x = some (.ref C)) (hex : X.ex = []) (hc : X.calm = true) (hg : Gl X x) (ha : FE X a fa)
    (he : starEach [a] X.env = (false, eval a X.env) :: starEach [] X.env := by kernel_rfl) (hdb : (x == ("__debug__" : Str)) = false := by kernel_rfl) :
    FS X (.Raise (some (.Call (.Name x np) [a] [] cpos)) none pos) (fRaise c fa) := by
  subst hx
  constructor
  intro pins s σ H D I ⟨ρ, E, o⟩
  obtain ⟨tl, N, nm, q, bs, hdct, sn, sub, ab, col, dd, k0, k1, k2, k3, k5, mN, hC, hN, hni, T⟩ := (own_in I.ok.mod.kin hm K.ex).obj
  refine wpAny_Raise_call_subT (C := C) (nm := nm) (q := q) (N := N) (bs := bs) (bm := tl) (hdct := hdct) (sn := sn) (sub := sub) (ab := ab) (col := col) (dd := dd) (k0 := k0) (k1 := k1) (k2 := k2) (k3 := k3) (k5 := k5) PySem.F.excBase_ValueError (mN := mN)
    (T.hasType PySem.F.excBase_ValueError.hasBase) (I.ok.hd hc) (by rw [he]; rfl) hni (ld_glob I hg hm ⟨rfl, ?_⟩ hdb)
  have hp := (fa_cons ha fa_nil he).h cpos pins s σ H (fun vs H1 => vs.length = 1 ∧ XW X c H1) I ⟨ρ, E, ?_⟩
  · rw [he] at hp ⊢
    refine Calls.evalArgs_plain (thn hp fun us s2 ⟨vs, H1, I1, rv, hl, hw⟩ => ⟨rfl, ?_, I1.bk _ _ hC, hN.keeps I1.bk, T.keeps I1.bk, fun h' e me => ?_⟩)
    · rw [← rv.length, hl]; decide
    · have I2 : Inv X pins σ H1 { s2 with heap := h' } := I1.kept (t' := s2.toks) me.keeps
      obtain ⟨t, t1, t2, t3⟩ := me.there
      refine hw pins σ H1 _ (.ref e) (fun _ _ z => z) I2 ⟨e, C, rfl, K.nm, untracked I1.hok me.new, ⟨?_, fun p hp z => ?_⟩, _, _, .ref t, t1, rfl, rfl, rfl, .inl rfl⟩
      · cases z : X.s₀.heap.get? e with
        | none => rfl
        | some o2 =>
          obtain ⟨o3, z3⟩ := I1.base.there e o2 z (by rw [hex]; simp)
          rw [me.new] at z3
          cases z3
      · have z2 := (I1.pin p (List.mem_append_left _ hp)).1
        rw [z, me.new] at z2
        cases z2
  · show OutA X H (aCons fa aNil ρ) _
    unfold aCons
    unfold fRaise at o
    match hf : fa ρ with
    | none => rw [hf] at o; exact o.elim
    | some (.exc c2) => rw [hf] at o; exact o
    | some (.ok d) => rw [hf] at o; exact fun vs H1 e1 r => ⟨r.length, XW.mono o e1⟩
end
end FD
namespace FD
open PySem PySem.Spec PyProof.Rows L2 PySem.W Builtin.Getset_descriptor
theorem bga_plain : plainId "BaseException.__getattribute__" = true := by decide +kernel
theorem bga_kind : builtinKind "BaseException.__getattribute__" = some .slot := by decide +kernel
theorem bga_split : splitId "BaseException.__getattribute__" = some ("BaseException", "__getattribute__") := by decide +kernel
theorem bga_bind (self : Value) : bindSpecial (.builtin "BaseException.__getattribute__") self = pure (.builtin "BaseException.__getattribute__", [self]) := by
  have h1 : withoutEnding? "BaseException.__getattribute__" "#opaque" = none := by decide +kernel
  have h2 : withoutEnding? "BaseException.__getattribute__" "#data" = none := by decide +kernel
  simp only [bindSpecial, typeOf, builtinType, h1, h2, bga_kind]; rfl
section
variable {prog : Program} {w : World} {A : Around} {E : Value → Shared → Prop} {s : Shared} {K : PySem.W.Frag} {x C : Addr} {ox : Obj}
structure XI (K : PySem.W.Frag) (C : Addr) : Prop where
  ga : findIn K (.ref C) "__getattribute__" = some (some (.builtin "BaseException.__getattribute__"))
  gt : findIn K (.ref C) "__getattr__" = some none
  cl : findIn K (.ref C) "__class__" = some (some (.builtin "object.__class__"))
  sp : specialIn K (.builtin "object.__class__") "__get__" = some (some (.builtin "getset_descriptor.__get__"))
  tk : takesIn K (.builtin "object.__class__") = some true
  ob : mroIn K C (.type "object") = some true
  be : mroIn K C (.type "BaseException") = some true
theorem ty_at (hx : s.heap.get? x = some ox) (hc : ox.cls = .ref C) {M : Model} : Looks M s.heap (typeOf (.ref x)) (.ref C) := hc ▸ (Looks.ld hx).andThen .now
theorem look_cls (X : K.In s.heap) (k : XI K C) {M : Model} : Looks M s.heap (Builtin.ObjectAttr.find (.ref x) (.ref C) "__class__") (.bind (.builtin "getset_descriptor.__get__") (.builtin "object.__class__")) := by
  have L1 := looks_findIn (M := M) X k.cl
  have L2 := looks_specialIn (M := M) X k.sp
  have L3 := looks_takesIn (M := M) X k.tk
  intro A2 Q2 E2 s2 k2 q2
  unfold Builtin.ObjectAttr.find
  refine wpAny_bind (L1 A2 _ E2 s2 k2 (wpAny_bind (L2 A2 _ E2 s2 k2 (wpAny_bind ?_))))
  unfold Builtin.ObjectAttr.dataDescriptor?
  refine wpAny_bind (L3 A2 _ E2 s2 k2 ?_)
  rw [if_pos rfl]
  exact wpAny_pure (wpAny_bind (wpAny_rule (wpAny_pure q2)))
theorem cls_of {R : Result → Shared → Prop} {tp : Value} (X : K.In s.heap) (hx : s.heap.get? x = some ox) (hc : ox.cls = .ref C) (hm : mroIn K C (.type "object") = some true)
    (h : R (.ok (.ret (.ref C))) s) : codeAny (model prog w) A (.call (.builtin "getset_descriptor.__get__") ⟨[.builtin "object.__class__", .ref x, tp], []⟩) R s := by
  have L0 := ty_at (M := model prog w) hx hc
  have L1 := looks_mroIn (M := model prog w) X hm
  obtain ⟨hh, g, dr, t, os⟩ := s
  refine codeAny_call_builtin KF.slot_gs.plain KF.entry_gs (KF.slot_gs.check _ _ _ _ _ _ _ _ KF.type_class (KF.args_gs _ _ _) ?_)
  unfold Builtin.«getset_descriptor.__get__» descrGet
  rw [dga_obj]
  refine wpAny_bind (wpAny_pure ?_)
  unfold descrGetter descrCheckInstance descrNameAndClass isInstance
  simp only [KF.owner_class]
  repeat lk
  refine ⟨Code.quiet_builtin _ (by decide +kernel), codeAny_builtin KF.entry_class ?_⟩
  unfold Builtin.«object.__class__» shownTypeOf
  repeat lk
  exact h
theorem exn_class {Q : Option Value → Shared → Prop} (X : K.In s.heap) (hx : s.heap.get? x = some ox) (hc : ox.cls = .ref C) (k : XI K C)
    (h : Q (some (.ref C)) { s with toks := s.toks + 1 }) : wpAny (model prog w) A (getAttr? (.ref x) "__class__") Q E s := by
  have L0 := ty_at (M := model prog w) hx hc
  have L2 := look_cls (M := model prog w) (x := x) X k
  obtain ⟨hh, g, d, t, os⟩ := s
  have L1 := looks_findIn (M := model prog w) X k.ga
  have L3 := looks_findIn (M := model prog w) X k.gt
  have LB := looks_mroIn (M := model prog w) X k.be
  unfold getAttr? getAttrBy? getAttrBy
  refine wpAny_bind (wpAny_mkText (wpAny_bind (wpAny_attempt (wpAny_holding (wpAny_bind (L0.at (wpAny_bind (L1.at ?_))))))))
  have hne : (Value.builtin "BaseException.__getattribute__" == Value.builtin "object.__getattribute__") = false := by decide +kernel
  dsimp only
  rw [hne, Bool.and_false, if_neg Bool.false_ne_true]
  unfold getAttrByItsOwn
  refine wpAny_bind ?_
  show wpAny _ _ (typeLookup (.ref C) "__getattr__") _ _ _
  refine L3.at ?_
  refine wpAny_bind (wpAny_attempt (wpAny_holding ?_))
  unfold callGetattribute boundAndCalled
  rw [if_neg (by decide)]
  rw [bga_bind]
  refine wpAny_bind (wpAny_pure ?_)
  refine wpAny_call (codeAny_call_builtin bga_plain F.entry_bexc_ga ?_)
  simp only [checkBuiltinCall, bga_kind, bga_split]
  have ha := F.args_bexc_ga (.ref x) (.str "__class__" t)
  have LI : Looks (model prog w) hh (isInstance (.ref x) (.type "BaseException")) true := L0.andThen LB
  show wpAny _ _ (isInstance (.ref x) (.type "BaseException") >>= _) _ _ _
  refine wpAny_bind (LI.at ?_)
  simp only [Bool.not_true, Bool.false_eq_true, if_false]
  have hz : hh.get? x = some ox ∧ True := ⟨hx, trivial⟩
  clear hx
  repeat (any_goals (first | assumption | wp_step))
  have hx' := hz.1
  refine wpAny_loadPart_at hx' ?_
  refine wpAny_pure ?_
  rw [hc]
  refine wpAny_bind (L2.at ?_)
  dsimp only
  unfold Builtin.ObjectAttr.bindTo
  dsimp only
  refine wpAny_bind (wpAny_holding (wpAny_call (cls_of (s := ⟨hh, g, d, t + 1, os⟩) (ox := ox) X hx' hc k.ob ?_)))
  refine wpAny_pure ?_
  show wpAny _ _ (handedOut (.ref C)) _ _ _
  rw [handedOut_of rfl]
  exact wpAny_pure (wpAny_pure h)
theorem clsIn_of {K : PySem.W.Frag} {C : Addr} {b : Value} {r : Bool} (h : mroIn K C b = some r) : ∃ cd, clsIn K C = some cd := by
  unfold mroIn at h
  cases q : clsIn K C with
  | none => rw [q] at h; cases h
  | some cd => exact ⟨cd, rfl⟩
theorem kitx_exn {K : PySem.W.Frag} {x C : Addr} {ox : Obj} (k : XI K C) (hc : ox.cls = .ref C) : KitX K (.ref x) (.ref C) (fun h => h.get? x = some ox) where
  ty := fun M h _ q => hc ▸ (Looks.ld q).andThen .now
  it := fun _ _ X _ => by
    obtain ⟨cd, hc⟩ := clsIn_of k.ob
    unfold clsIn at hc
    split at hc
    · rename_i look
      intro A2 Q2 E2 s2 k2 q2
      unfold isType loadHead
      exact wpAny_bind (wpAny_loadPart (k2 _ _ (X _ _ look)) (wpAny_pure q2))
    · cases hc
  ne := fun h tp dd its n sl X htp => by
    obtain ⟨cd, hc⟩ := clsIn_of k.ob
    cases z : (Value.ref C == Value.ref tp) with
    | false => rfl
    | true =>
      have e := Value.ref.inj (beq_iff_eq.mp z)
      subst e
      unfold clsIn at hc
      split at hc
      · rename_i look
        cases (X _ _ look).symm.trans htp
      · cases hc
  ca := fun X q z => exn_class X q hc k z
end
def isX (tb : Nat → Option Bool) : Dv → Option (Rs Dv)
  | .exn c => match tb c with
    | some b => some (.ok (.bl b))
    | none => none
  | _ => none
def XT (K : PySem.W.Frag) (tb : Nat → Option Bool) (T : Value) : Prop := ∀ c b, tb c = some b → ∀ C, nsIn K mainGlobals (xnm c) = some (some (.ref C)) → XI K C ∧ kitOne K (.ref C) T = some b
section
variable {X : Cx} {p pos pT : Pos} {a : Expr} {fa : FnE} {T : Str}
theorem call_isx {tv : V} {tval : Value} (rt : ∀ u, RelV tv u → u = tval) {tb : Nat → Option Bool} (k : XT X.K tb tval) : CallR X (.builtin "isinstance") (fun xs H Q => ∃ v c b, xs = [v, tv] ∧ Rep X.K H (.exn c) v ∧ tb c = some b ∧ Q (.bl b) H) := by
  intro pins s σ H xs us Q I r h
  obtain ⟨v, c, b, rfl, rv, hb, q⟩ := h
  obtain ⟨a, o, u, C, rfl, hH, hc, hn⟩ := rv.exnE
  obtain ⟨u1, u2, rfl, r1, r2⟩ := vals2 r
  cases (show u1 = Value.ref a from r1)
  cases (rt u2 r2)
  obtain ⟨xi, kk⟩ := k c b hb C hn
  have hg : s.heap.get? a = some o := (I.hok a _ hH).1
  exact kia_one (kitx_exn xi hc) I.kIn hg kk (by intro z; cases z) fun tk => ⟨.bl b, H, I.tok tk, rfl, q⟩
theorem fe_isO {tb : Nat → Option Bool} {CT : Addr} (k : XT X.K tb (.ref CT)) (hT : X.mg T = some (.ref CT)) (hgT : Gl X T) (hdT : (T == ("__debug__" : Str)) = false) (hg : Gl X "isinstance") (hm : X.mg "isinstance" = none) (ha : FE X a fa)
    (hs1 : starEach [a, .Name T pT] X.env = (false, eval a X.env) :: starEach [.Name T pT] X.env := by kernel_rfl) (hs2 : starEach [.Name T pT] X.env = (false, eval (.Name T pT) X.env) :: starEach [] X.env := by kernel_rfl)
    (hpl : (backTo pos (starEach [.Name T pT] X.env)).any (·.1) = false := by kernel_rfl) :
    FE X (.Call (.Name "isinstance" p) [a, .Name T pT] [] pos) (f1 (isX tb) fa) :=
  fe_of (pe_callB (call_isx (tv := .ref CT) (fun u z => z) k) hg hm PyProof.Rows.boot_isinstance (pa_cons ha.h (pa_cons (pe_glob (v := .ref CT) hgT hT rfl hdT) pa_nil hs2) hs1) (by decide) (by decide) hs1 hpl) fun σ H Q ρ E o => ⟨ρ, E, Out.bind o fun d v H1 e1 r o1 => by
    show ∃ v2 c b, [v, V.ref CT] = [v2, V.ref CT] ∧ _
    cases d with
    | exn c =>
      have o2 : Out X H1 (match tb c with | some b => some (.ok (.bl b)) | none => none) Q := o1
      cases q : tb c with
      | none => rw [q] at o2; exact o2.elim
      | some b => rw [q] at o2; exact ⟨v, c, b, rfl, r, q, o2 _ H1 (.refl H1) rfl⟩
    | _ => exact o1.elim⟩
theorem fe_isB {T : String} {tb : Nat → Option Bool} (k : XT X.K tb (.type T)) (hT : bootBuiltins (Str.ofString T) = some (.type T)) (hn : Str.ofString T ≠ "__name__") (hdT : (Str.ofString T == ("__debug__" : Str)) = false)
    (hg : Gl X "isinstance") (hm : X.mg "isinstance" = none) (hgT : Gl X (Str.ofString T)) (hmT : X.mg (Str.ofString T) = none) (ha : FE X a fa)
    (hs1 : starEach [a, .Name (Str.ofString T) pT] X.env = (false, eval a X.env) :: starEach [.Name (Str.ofString T) pT] X.env := by kernel_rfl) (hs2 : starEach [.Name (Str.ofString T) pT] X.env = (false, eval (.Name (Str.ofString T) pT) X.env) :: starEach [] X.env := by kernel_rfl)
    (hpl : (backTo pos (starEach [.Name (Str.ofString T) pT] X.env)).any (·.1) = false := by kernel_rfl) :
    FE X (.Call (.Name "isinstance" p) [a, .Name (Str.ofString T) pT] [] pos) (f1 (isX tb) fa) :=
  fe_of (pe_callB (call_isx (tv := .ty T) (fun u z => z) k) hg hm PyProof.Rows.boot_isinstance (pa_cons ha.h (pa_cons (pe_bltn (v := .ty T) hgT hmT hT rfl hn hdT) pa_nil hs2) hs1) (by decide) (by decide) hs1 hpl) fun σ H Q ρ E o => ⟨ρ, E, Out.bind o fun d v H1 e1 r o1 => by
    show ∃ v2 c b, [v, V.ty T] = [v2, V.ty T] ∧ _
    cases d with
    | exn c =>
      have o2 : Out X H1 (match tb c with | some b => some (.ok (.bl b)) | none => none) Q := o1
      cases q : tb c with
      | none => rw [q] at o2; exact o2.elim
      | some b => rw [q] at o2; exact ⟨v, c, b, rfl, r, q, o2 _ H1 (.refl H1) rfl⟩
    | _ => exact o1.elim⟩
end
end FD
namespace FD
open PySem PySem.Spec PyProof.Rows L2 PySem.W
section
variable {X : Cx} {pins : List (Addr × Obj)} {σ : L2.St} {H : Hp} {s : Shared}
theorem unbind_ok {M : Model} {A : Around} {E : Value → Shared → Prop} {i : Nat} {x : Str} {v : V} {pos : Pos} {Q : Unit → Shared → Prop} (I : Inv X pins σ H s) (hN : X.N.Nodup) (hi : X.N[i]? = some x) (hk : X.env.scope.names.lookup x = some .local) (hv : σ[i]? = some (some v))
    (h : ∀ s', Inv X pins (σ.set i none) H s' → Q () s') : wpAny M A (unbindBehindTheSuite X.env x pos) Q E s := by
  obtain ⟨m, hn, hl⟩ := id I.loc
  have hkd : X.env.kindOf x = some .local := hk
  obtain ⟨u, ru, lk⟩ := hl i x v hi hv (.inl hk)
  have hm : m x = some u := by
    rcases lk with ⟨_, z⟩ | ⟨z, _⟩
    · exact z
    · rw [hkd] at z
      rcases z with z | z <;> cases z
  have hcls : (X.env.scope.kind == .class || (X.env.scope.kind == .module && X.env.locals != X.env.globals)) = false := by rw [I.ok.kind]; rfl
  have cne := I.cne
  obtain ⟨oL, _, _, hoL, _⟩ := id hn
  refine wpAny_onRaise (wpAny_unbindName_local hkd hn hm hcls fun h' w hn' hs => ?_)
  refine h _ ⟨I.ok, I.os, I.bare, ⟨fun b o e n hb hx => ?_, fun b o e n hb hx => ?_, I.base.free, fun b o e hx => ?_, I.base.tups, I.base.frzs, I.base.tbls⟩, ⟨_, hn', fun j y v' e1 e2 e3 => ?_⟩, fun y c e => ?_, I.free, I.freeC, fun p hp => ?_, fun b ob e => ?_, by simpa using I.len⟩
  · exact (hs.2 b (Nat.ne_of_lt (Nat.lt_of_lt_of_le (Heap.lt_size e) I.ok.above))).trans (I.base.keep b o e n hb hx)
  · obtain ⟨sl, e1⟩ := I.base.slot b o e n hb hx
    exact ⟨sl, (hs.2 b (Nat.ne_of_lt (Nat.lt_of_lt_of_le (Heap.lt_size e) I.ok.above))).trans e1⟩
  · obtain ⟨o', e1⟩ := I.base.there b o e hx
    exact ⟨o', (hs.2 b (Nat.ne_of_lt (Nat.lt_of_lt_of_le (Heap.lt_size e) I.ok.above))).trans e1⟩
  · by_cases hj : j = i
    · subst hj
      have hjl : j < σ.length := by rw [I.len]; exact (List.getElem?_eq_some_iff.mp hi).1
      rw [List.getElem?_set_self hjl] at e2
      cases e2
    · rw [List.getElem?_set_ne (Ne.symm hj)] at e2
      obtain ⟨u', r', q⟩ := hl j y v' e1 e2 e3
      refine ⟨u', r', ?_⟩
      rcases q with ⟨k, e⟩ | ⟨k, c, e, z⟩
      · refine .inl ⟨k, ?_⟩
        have : y ≠ x := fun e => hj (nodup_ix hN e1 (e ▸ hi))
        simp [this, e]
      · exact .inr ⟨k, c, e, z.sameBut hs (cne y c e)⟩
  · obtain ⟨w', z⟩ := I.cell y c e
    exact ⟨w', z.sameBut hs (cne y c e)⟩
  · obtain ⟨e, n, ne, nf, d⟩ := I.pin p hp
    exact ⟨(hs.2 p.1 ne).trans e, n, ne, nf, d⟩
  · refine (I.hok b ob e).stay (fun c w' hc q => (hs.2 c ?_).trans q) (fun _ q => q) fun _ _ q => q
    rintro rfl
    rcases hc with hc | hc
    · rw [← hc, I.free] at e; cases e
    · rw [I.free] at hc; cases hc
theorem Inv.freeze {e : Addr} {oe : Obj} {vs : Array Value} (I : Inv X pins σ H s) (he : H e = none) (hg : s.heap.get? e = some oe) (hd : oe.data = .fields vs) (h0 : X.s₀.heap.get? e = none) (hp : ∀ p ∈ X.pn ++ pins, p.1 ≠ e) :
    Inv X pins σ (upd H e (.frz oe (.ext fun _ => True))) s := by
  have ne : ∀ b u, H b = some u → b ≠ e := fun b u q => ne_of_none q he
  refine ⟨I.ok, I.os, I.bare, ⟨I.base.keep, I.base.slot, fun b o q n hx => ?_, I.base.there, fun b xs q => ?_, fun b o u q => ?_, fun b ps q => ?_⟩, I.loc, I.cell, ?_, fun x c q => ?_, fun p hp' => ?_, fun b u q => ?_, I.len⟩
  · have hb : b ≠ e := fun z => by rw [z, h0] at q; cases q
    rw [upd_ne hb]
    exact I.base.free b o q n hx
  · have q' := I.base.tups b xs q
    rw [upd_ne (ne b _ q')]
    exact q'
  · have q' := I.base.frzs b o u q
    rw [upd_ne (ne b _ q')]
    exact q'
  · obtain ⟨more, q'⟩ := I.base.tbls b ps q
    exact ⟨more, by rw [upd_ne (ne b _ q')]; exact q'⟩
  · obtain ⟨m, ⟨o, es, ep, ho, hdd, _⟩, _⟩ := I.loc
    have hb : X.env.locals ≠ e := fun z => by rw [z, hg] at ho; cases ho; rw [hd] at hdd; cases hdd
    rw [upd_ne hb]
    exact I.free
  · obtain ⟨v, o, ho, hdd⟩ := I.cell x c q
    have hb : c ≠ e := fun z => by rw [z, hg] at ho; cases ho; rw [hd] at hdd; cases hdd
    rw [upd_ne hb]
    exact I.freeC x c q
  · obtain ⟨q1, q2, q3⟩ := I.pin p hp'
    exact ⟨q1, by rw [upd_ne (hp p hp')]; exact q2, q3⟩
  · by_cases hb : b = e
    · subst hb
      rw [upd_same] at q
      cases q
      exact ⟨hg, trivial, ⟨oe, hg⟩, fun _ _ _ _ => trivial⟩
    · rw [upd_ne hb] at q
      exact (I.hok b u q).stay (fun _ _ _ z => z) (fun c z => by rw [upd_ne (ne c _ z)]; exact z) fun c xs z => by rw [upd_ne (ne c _ z)]; exact z
end
structure RoomM (k : Nat) (A : Around) : Prop where
  dp : A.depth + 3 * k + 5 < recursionLimit
  un : A.units + 16 * k + 200 < cLine
theorem RoomM.of {k : Nat} {A : Around} (r : Room k A) : RoomM k A := ⟨r.dp, r.un⟩
theorem RoomM.mono {j k : Nat} {A : Around} (r : RoomM k A) (h : j ≤ k) : RoomM j A := ⟨by have := r.dp; omega, by have := r.un; omega⟩
theorem RoomM.deeper {k : Nat} {A : Around} (r : RoomM (k + 1) A) (env : Env) : RoomM k (A.deeper env) :=
  ⟨by have := r.dp; show A.depth + 1 + 3 * k + 5 < _; omega, by have := r.un; show A.units + 3 + 16 * k + 200 < _; omega⟩
theorem RoomM.units {k : Nat} {A : Around} (r : RoomM k A) : A.units + 64 < cLine := by have := r.un; omega
structure FnM (P : Program) (w : World) (K : PySem.W.Frag) (mg : Str → Option Value) (base : Heap) (k : Nat) (f : Addr) (fd : FuncData) (ps : List Str) (F : List Dv → Option (Rs Dv)) : Prop where
  run : ∀ (A : Around) (outer : List Env) (s : Shared) (H : Hp) (args : Args) (us : List Value) (vs : List V) (ds : List Dv) (d : Dv) (Q : VK), RoomM k A → Env0 P w K mg base A outer s H → BindsTo s fd args (ps.zip us) → Vals vs us →
    Reps K H ds vs → ds.length = ps.length → F ds = some (.ok d) → (∀ v H', Same H H' → Rep K H' d v → Q v H') → codeAny (model P w) A (.call (.ref f) args) (CR CX0 outer P w H s Q E0) s
def HasM (P : Program) (w : World) (K : PySem.W.Frag) (mg : Str → Option Value) (base : Heap) (x : Str) (k : Nat) (ps : List Str) (F : List Dv → Option (Rs Dv)) : Prop :=
  ∃ f fd, FnM P w K mg base k f fd ps F ∧ mg x = some (.ref f) ∧ PySem.W.keepIn K (.ref f) = true ∧ Binds K fd ps []
section
variable {X : Cx} {x : Str} {p pos : Pos} {e : Expr} {es : List Expr} {g : FnA} {n : Nat}
theorem fe_callM {k' : Nat} (k : Nat) (ps : List Str) (F : List Dv → Option (Rs Dv)) (h : HasM X.prog X.w X.K X.mg X.base x k ps F) (hr : RoomM k' X.A) (hk : k ≤ k') (hg : Gl X x) (ha : FA X (e :: es) g) (hn : n = ps.length := by kernel_rfl) (hdb : (x == ("__debug__" : Str)) = false := by kernel_rfl)
    (he : starEach (e :: es) X.env = (false, eval e X.env) :: starEach es X.env := by kernel_rfl) (hpl : (backTo pos (starEach es X.env)).any (·.1) = false := by kernel_rfl) :
    FE X (.Call (.Name x p) (e :: es) [] pos) (fCall F n g) := by
  subst hn
  obtain ⟨f, fd, G, hm, hkp, hb⟩ := h
  constructor
  intro pins s σ H Q I ⟨ρ, E, o⟩
  have hp : wpAny (model X.prog X.w) X.A (spliced (backTo pos (starEach (e :: es) X.env))) (AP X pins σ fun vs H1 => ∃ ds, Reps X.K H1 ds vs ∧ ds.length = ps.length ∧ ∃ d, F ds = some (.ok d) ∧ ∀ v H', Same H1 H' → Rep X.K H' d v → Q v H') X.xe s := by
    refine ha.h pos pins s σ H _ I ⟨ρ, E, OutA.bind o fun ds vs H' e rs o1 => ?_⟩
    by_cases hl : ds.length = ps.length
    · rw [if_pos hl] at o1
      refine ⟨ds, rs, hl, ?_⟩
      match hF : F ds with
      | none => rw [hF] at o1; exact o1.elim
      | some (.exc c) => rw [hF] at o1; exact o1.elim
      | some (.ok d) => rw [hF] at o1; exact ⟨d, rfl, o1⟩
    · rw [if_neg hl] at o1
      exact o1.elim
  refine wpAny_Call_Name_kw (ld_glob I hg hm ?_ hdb)
  refine PySem.W.callWith_K (h₀ := X.base) I.ok.mod.kin hkp (thn hp fun us s1 ⟨vs, H1, I1, r, ds, rs, hl, d, hF, q⟩ => ⟨I1.kIn, ?_⟩) he hpl
  have hlen : us.length = ps.length := by rw [← r.length, rs.length, hl]
  have hb' : BindsTo s1 fd ⟨us, []⟩ (ps.zip us) := by
    have z := hb s1 us I1.kIn (by rw [List.append_nil]; exact hlen)
    rw [List.append_nil] at z
    exact z
  refine wpAny_call (codeAny_mono (G.run X.A X.stack s1 H1 ⟨us, []⟩ us vs ds d Q (hr.mono hk) I1.env0 hb' r rs hl hF q) fun r s' hq => ?_)
  cases r with
  | error e => exact hq.elim
  | ok fl =>
    cases fl with
    | ret u => exact I1.after hq
    | next => exact False.elim hq
    | brk => exact False.elim hq
    | cont => exact False.elim hq
end
def cxM (P : Program) (w : World) (K : PySem.W.Frag) (mg : Str → Option Value) (base : Heap) (N : List Str) (qual : Str) (scope : Scope) (f : Addr) (cd : Value) (A : Around) (outer : List Env) (s : Shared) (H : Hp) : Cx :=
  { cxOf CX0 P w K mg base N qual scope f cd A outer s H E0 with calm := false, xe := fun _ _ => False }
theorem fn_okM {k : Nat} {f : Addr} {fd : FuncData} {x : Str} {P : Program} {w : World} {K : PySem.W.Frag} {mg : Str → Option Value} {base : Heap} {qual : Str} {st : Stmt} {F : List Dv → Option (Rs Dv)} (N ps : List Str) (fb : FnS) (hF : F = runF N.length fb)
    (Fn : Fun K x qual st f fd) (S : FnScope N ps (defScope st))
    (hb : ∀ (cdv : Value) (A : Around) (outer : List Env) (s : Shared) (H : Hp), RoomM k (A.deeper (envOfC qual (defScope st) s.heap.objs.size f cdv)) → FSs (cxM P w K mg base N qual (defScope st) f cdv A outer s H) (defBody st) fb) :
    FnM P w K mg base (k + 1) f fd ps F := by
  subst hF
  obtain ⟨oc, od, kV, doc, pm, an, cdv, ct, osl, rfl, lk, hcd⟩ := Fn.ex
  refine ⟨fun A outer s H args us vs ds d Q hr e0 hbd r rs hl hF q => ?_⟩
  have hlv : vs.length = ps.length := by rw [rs.length, hl]
  have KX : K.In s.heap := e0.mod.kin.keeps fun b o e => (e0.bs b o e).1
  have lim : s.heap.NoLimit := e0.mod.nolimit.keeps fun b o e => (e0.bs b o e).1
  have hkind : ∀ y ∈ ps.zip us, (defScope st).names.lookup y.1 = some .local ∨ ((defScope st).names.lookup y.1 = some .cell ∧ ((cellsFrom (s.heap.objs.size + 1) (defScope st).names []).lookup y.1).isSome = true) := fun ⟨n, v⟩ hy => by
    rcases S.par n (List.of_mem_zip hy).1 with z | z
    · exact .inl z
    · exact .inr ⟨z, PySem.W.cellsFrom_some _ _ _ (.inl z)⟩
  have hdp : A.depth < recursionLimit := by have := hr.dp; omega
  refine codeAny_call_function hdp (KX _ _ lk) rfl S.co S.gen rfl (PySem.W.codeRec_of KX hcd) (hbd _ _ _ _ ?_)
  refine wpAny_newFunctionEnv_cells S.kind hkind fun env he s1 x => ?_
  subst he
  refine ⟨lim.keeps x.toInCall.keep, codeAny_func ?_⟩
  have e1 : Env0 P w K mg base { A with handled := none } outer s H := ⟨e0.frames, e0.mod, e0.bs, e0.bsz, e0.funs, e0.frf, e0.hok, e0.bare⟩
  have I0 : Inv (cxOf CX0 P w K mg base N qual (defScope st) f cdv { A with handled := none } outer s H E0) [] (start N vs) H s1 := inv_start S rfl e1 hlv r x
  have I : Inv (cxM P w K mg base N qual (defScope st) f cdv A outer s H) [] (start N vs) H s1 :=
    ⟨⟨I0.ok.mod, I0.ok.kind, I0.ok.glob, I0.ok.blt, I0.ok.above, I0.ok.inj, I0.ok.has, I0.ok.cab, (fun z => absurd z Bool.false_ne_true), Around.frames_deeper e0.frames, I0.ok.stk, I0.ok.exf, I0.ok.bs, I0.ok.bsz, I0.ok.noex, I0.ok.exfs, I0.ok.funs, I0.ok.frf⟩,
      I0.os, I0.bare, I0.base, I0.loc, I0.cell, I0.free, I0.freeC, I0.pin, I0.hok, I0.len⟩
  have fin : ∀ {s' : Shared} {σ' : L2.St} {H' : Hp} {v : V} {u : Value}, Inv (cxM P w K mg base N qual (defScope st) f cdv A outer s H) [] σ' H' s' → RelV v u → Q v H' → CE outer P w H s Q u s' := fun {s' σ' H' v u} J rv q => ⟨v, H', J.os, J.bare, J.base, J.hok, rv, q⟩
  have hq : OutS (cxM P w K mg base N qual (defScope st) f cdv A outer s H) H (fb (ds.map some ++ List.replicate (N.length - ds.length) none)) { nx := fun _ H' => Q .non H', rt := Q } := by
    unfold runF at hF
    match hf : fb (ds.map some ++ List.replicate (N.length - ds.length) none) with
    | none => rw [hf] at hF; cases hF
    | some (.exc c) => rw [hf] at hF; cases hF
    | some (.rt d') => rw [hf] at hF; cases hF; exact q
    | some (.nx ρ) => rw [hf] at hF; cases hF; exact fun σ' H' e _ => q .non H' e rfl
  refine wpAny_mono ((hb cdv A outer s H (hr.deeper _)).h [] s1 (start N vs) H _ I ⟨_, envs_start rs, hq⟩) (fun fl s' hs => ?_) fun e s' hs => hs.elim
  cases fl with
  | ret u =>
    obtain ⟨v, σ', H', J, rv, z⟩ := hs
    exact fin J rv z
  | next =>
    obtain ⟨σ', H', J, z⟩ := hs
    exact fin (v := V.non) (u := Value.none) J rfl z
  | brk =>
    obtain ⟨_, _, _, z⟩ := hs
    exact False.elim z
  | cont =>
    obtain ⟨_, _, _, z⟩ := hs
    exact False.elim z
end FD
namespace FD
open PySem PySem.Spec PyProof.Rows L2 PySem.W
abbrev tryX (X : Cx) (pl : List (Addr × Obj)) (E : Value → Shared → Prop) : Cx := { X with pn := X.pn ++ pl, xe := E }
abbrev handX (X : Cx) (pl : List (Addr × Obj)) (e : Addr) : Cx := { X with A := X.A.mark (some (.ref e)), calm := false, pn := X.pn ++ pl, xe := fun _ _ => False }
section
variable {X : Cx} {pl ps : List (Addr × Obj)} {σ : L2.St} {H : Hp} {s : Shared} {E : Value → Shared → Prop} {e : Addr}
theorem inv_try (I : Inv X pl σ H s) : Inv (tryX X pl E) [] σ H s :=
  ⟨⟨I.ok.mod, I.ok.kind, I.ok.glob, I.ok.blt, I.ok.above, I.ok.inj, I.ok.has, I.ok.cab, I.ok.hd, I.ok.frames, I.ok.stk, I.ok.exf, I.ok.bs, I.ok.bsz, I.ok.noex, I.ok.exfs, I.ok.funs, I.ok.frf⟩,
    I.os, I.bare, I.base, I.loc, I.cell, I.free, I.freeC, fun p hp => I.pin p (by simpa using hp), I.hok, I.len⟩
theorem inv_untry (I : Inv (tryX X pl E) ps σ H s) : Inv X pl σ H s :=
  ⟨⟨I.ok.mod, I.ok.kind, I.ok.glob, I.ok.blt, I.ok.above, I.ok.inj, I.ok.has, I.ok.cab, I.ok.hd, I.ok.frames, I.ok.stk, I.ok.exf, I.ok.bs, I.ok.bsz, I.ok.noex, I.ok.exfs, I.ok.funs, I.ok.frf⟩,
    I.os, I.bare, I.base, I.loc, I.cell, I.free, I.freeC, fun p hp => I.pin p (List.mem_append_left _ hp), I.hok, I.len⟩
theorem inv_hand (I : Inv X pl σ H s) : Inv (handX X pl e) [] σ H s :=
  ⟨⟨I.ok.mod, I.ok.kind, I.ok.glob, I.ok.blt, I.ok.above, I.ok.inj, I.ok.has, I.ok.cab, fun z => absurd z Bool.false_ne_true, I.ok.frames, I.ok.stk, I.ok.exf, I.ok.bs, I.ok.bsz, I.ok.noex, I.ok.exfs, I.ok.funs, I.ok.frf⟩,
    I.os, I.bare, I.base, I.loc, I.cell, I.free, I.freeC, fun p hp => I.pin p (by simpa using hp), I.hok, I.len⟩
theorem inv_unhand (ok : X.Ok) (I : Inv (handX X pl e) ps σ H s) : Inv X pl σ H s :=
  ⟨ok, I.os, I.bare, I.base, I.loc, I.cell, I.free, I.freeC, fun p hp => I.pin p (List.mem_append_left _ hp), I.hok, I.len⟩
theorem note_fly {Y : Cx} (I : Inv Y ps σ H s) (hex : Y.ex = []) (hst : Y.stack = Y.env :: Y.outer) (hfm : Y.env.frame = some Y.env.locals) {cls : Value} (F : Fly (newX Y) H e cls s.heap)
    {Q : Unit → Shared → Prop} {E1 E2 : Value → Shared → Prop} (k : ∀ h' Ts a0, (hid Y e Ts s.heap).StaysIn h' → h'.FunFrames (hid Y e Ts s.heap) Y.stack → h'.TracedW (hid Y e Ts s.heap) e cls a0 →
      (∀ b o, s.heap.get? b = some o → (∀ vs, o.data ≠ .fields vs) → ∃ sl, h'.get? b = some { o with slots := sl }) →
      (∀ b, b = e ∨ b ∈ Ts → H b = none ∧ newX Y b ∧ ∃ o vs, s.heap.get? b = some o ∧ o.data = .fields vs) → Q () { s with heap := h' }) :
    wpAny (model Y.prog Y.w) Y.A (noteFrame (.ref e) Y.env) (fun _ s2 => wpAny (model Y.prog Y.w) Y.A (setFlight (.ref e) none) Q E1 s2) E2 s := by
  obtain ⟨f1, f2, oe, vs, a0, q1, q2, q3, q4, q5⟩ := F
  have hfr : Y.A.frames = some (Y.env :: Y.outer) := hst ▸ I.ok.frames
  subst q2
  rcases q5 with q5 | ⟨T, oT, ts, r1, r2, r3, r4, r5, r6, r7⟩
  · have b3 : s.heap.FunFrames (hid Y e [] s.heap) (Y.env :: Y.outer) := hst ▸ hid_fun I
    have go : ∀ h', Heap.NotedW (hid Y e [] s.heap) (Y.env :: Y.outer) e oe.cls a0 (rawInt Y.env.locals) s.heap h' → wpAny (model Y.prog Y.w) Y.A (setFlight (.ref e) none) Q E1 { s with heap := h' } := fun h' ⟨k1, k2, k3, k4⟩ =>
      wpAny_setFlight_noneW (s := { s with heap := h' }) k1 k2 k3 fun h2 m1 m2 m3 m4 => k h2 [] a0 m1 (hst ▸ m2) m3 (fun b o q d => by
        obtain ⟨sl, q'⟩ := k4 b o q d
        exact ⟨sl, m4 b _ q' d⟩) fun b hb => by
          rcases hb with rfl | hb
          · exact ⟨f1, f2, oe, vs, q1, q3⟩
          · cases hb
    unfold noteFrame
    simp only [hfm]
    refine wpAny_bind (wpAny_field q1 q3 q5 ?_)
    rw [if_neg (by decide)]
    exact wpAny_entryW hfr b3 hfm q1 (fun b o z => PySem.W.of_hideAll _ z) (PySem.W.hideAll_none _ (List.mem_cons_self ..)) q3 (Array.getElem?_eq_some_iff.mp q5).1 q4 go
  · have b3 : s.heap.FunFrames (hid Y e [T] s.heap) (Y.env :: Y.outer) := hst ▸ hid_fun I
    have ht : s.heap.TracedW (hid Y e [T] s.heap) e oe.cls a0 := ⟨oe, vs, T, oT, ts, q1, ⟨rfl, q4⟩, q3, r1, PySem.W.hideAll_none _ (by simp), r2, r5, r6, r7⟩
    refine wpAny_noteFrame_onW hfr b3 hfm ht (fun b o z => PySem.W.of_hideAll _ z) (PySem.W.hideAll_none _ (List.mem_cons_self ..)) fun h' ⟨k1, k2, k3, k4⟩ => ?_
    refine wpAny_setFlight_noneW (s := { s with heap := h' }) k1 k2 k3 fun h2 m1 m2 m3 m4 => k h2 [T] a0 m1 (hst ▸ m2) m3 (fun b o q d => by
        obtain ⟨sl, q'⟩ := k4 b o q d
        exact ⟨sl, m4 b _ q' d⟩) fun b hb => by
          rcases hb with rfl | hb
          · exact ⟨f1, f2, oe, vs, q1, q3⟩
          · simp at hb
            subst hb
            exact ⟨r3, r4, oT, ts, r5, r6⟩
theorem exc_match {prog : Program} {w : World} {A : Around} {E1 : Value → Shared → Prop} {K : PySem.W.Frag} {mg mg2 : Str → Option Value} {C J : Addr} {oe : Obj} {y z : Str} {Q : Bool → Shared → Prop} (X : K.In s.heap) (hC : OwnCls y C bmV "ValueError.__new__" mg s.heap) (hJ : OwnCls z J bmV "ValueError.__new__" mg2 s.heap)
    (he : s.heap.get? e = some oe) (hc : oe.cls = .ref C) (hm : mroIn K C (.ref J) = some true) (h : Q true s) : wpAny (model prog w) A (excMatches (.ref e) (.ref J)) Q E1 s := by
  obtain ⟨tl, N, nm, q, bs, hdct, sn, sub, ab, col, dd, k0, k1, k2, k3, k5, mN, hC, hN, hni, T⟩ := hC.obj
  obtain ⟨tl', N', nm', q', bs', hdct', sn', sub', ab', col', dd', l0, l1, l2, l3, l5, mN', hJ, hN', hni', T'⟩ := hJ.obj
  obtain ⟨hh, g, d, t, os⟩ := s
  have hcB : (Value.ref J :: tl').contains (.type "BaseException") = true := by rw [List.contains_cons, T'.hasType PySem.F.excBase_ValueError.hasBase, Bool.or_true]
  have hcC : (Value.ref C :: tl).contains (.ref J) = true := by
    unfold mroIn at hm
    obtain ⟨cd, a, b⟩ := Option.bind_eq_some_iff.mp hm
    split at b
    · cases b
    · have b' := Option.some.inj b
      unfold clsIn at a
      split at a
      · rename_i look
        cases a
        have z := (X _ _ look).symm.trans hC
        cases z
        exact b'
      · cases a
  have f := tc_notTuple
  unfold excMatches
  repeat (first | (with_reducible refine wpAny_loadPart_at he ?_; rw [hc]) | with_reducible refine wpAny_loadPart_at hJ ?_ | (with_reducible refine wpAny_isSubtype_exc hJ ?_; rw [hcB]) | (with_reducible refine wpAny_isSubtype_exc hC ?_; rw [hcC]) | wp_step)
  exact h
end
end FD
namespace FD
open PySem PySem.Spec PyProof.Rows L2 PySem.W
def fTry (m i N : Nat) (f g : FnE) : FnS := fun ρ => match f ρ with
  | none => none
  | some (.ok d) => some (.rt d)
  | some (.exc c) => if c < m then (match g ((List.replicate N none).set i (some (.exn c))) with
    | some (.ok d) => some (.rt d)
    | _ => none) else none
section
variable {X : Cx} {ex hx : Expr} {f g : FnE} {J n : Str} {CJ : Addr} {np rp rp2 hpos pos : Pos}
theorem fs_try (m i N : Nat) (hex : X.ex = []) (hst : X.stack = X.env :: X.outer) (hfm : X.env.frame = some X.env.locals) (hgJ : Gl X J) (hmJ : X.mg J = some (.ref CJ)) (KJ : excIn X.K CJ bmV "ValueError.__new__" = true)
    (xk : ∀ c C, c < m → nsIn X.K mainGlobals (xnm c) = some (some (.ref C)) → excIn X.K C bmV "ValueError.__new__" = true ∧ mroIn X.K C (.ref CJ) = some true)
    (hN : X.N.Nodup) (hi : X.N[i]? = some n) (hl : X.env.scope.names.lookup n = some .local) (hNl : X.N.length = N)
    (hb : ∀ pl E', FE (tryX X pl E') ex f) (hh : ∀ pl e, FE (handX X pl e) hx g) (hdb : (J == ("__debug__" : Str)) = false := by kernel_rfl) :
    FS X (.Try [.Return (some ex) rp] [.ExceptHandler (some (.Name J np)) (some n) [.Return (some hx) rp2] hpos] [] [] pos) (fTry m i N f g) := by
  constructor
  intro pins s σ H D I ⟨ρ, E, o⟩
  refine wpAny_Try_except ?_
  have hbody := fun E' (h : OutS (tryX X pins E') H (fRet f ρ) { nx := fun _ _ => False, rt := D.rt }) => (fss_one (fs_ret (pos := rp) (hb pins E'))).h [] s σ H { nx := fun _ _ => False, rt := D.rt } (inv_try I) ⟨ρ, E, h⟩
  refine wpAny_mono (hbody (fun e s₁ => wpAny (model X.prog X.w) X.A (noteFrame e X.env) (fun _ s₂ => wpAny (model X.prog X.w) X.A (setFlight e none) (fun _ s₃ => wpAny (model X.prog X.w) X.A (handleBy e X.env [.ExceptHandler (some (.Name J np)) (some n) [.Return (some hx) rp2] hpos]) (SP X pins D) X.xe s₃) X.xe s₂) X.xe s₁) ?_) (fun fl s1 hs => ?_) fun e s1 hs => hs
  · unfold fTry at o
    unfold fRet
    match hf : f ρ with
    | none => rw [hf] at o; exact o.elim
    | some (.ok d) => rw [hf] at o; exact o
    | some (.exc c) =>
      rw [hf] at o
      dsimp only at o
      by_cases hcm : c < m
      · rw [if_pos hcm] at o
        intro ps σ1 H1 s1 ev same I1 ⟨e, C, he, hC, F⟩
        subst he
        have fe : H1 e = none := F.1
        have fn := F.2.1
        refine note_fly (Y := tryX X pins _) I1 hex hst hfm F (E1 := X.xe) (E2 := X.xe) fun h2 Ts a0 k1 k2 k3 k4 k5 => ?_
        have I1' := I1.pins_of (pins' := []) fun p hp => absurd hp (by simp)
        have hf5 : ∀ b, b = e ∨ b ∈ Ts → H1 b = none ∧ X.s₀.heap.get? b = none ∧ (∀ p ∈ (X.pn ++ pins) ++ [], p.1 ≠ b) ∧ ∃ o vs, s1.heap.get? b = some o ∧ o.data = .fields vs := fun b hb => ⟨(k5 b hb).1, (k5 b hb).2.1.1, fun p hp => (k5 b hb).2.1.2 p (by simpa using hp), (k5 b hb).2.2⟩
        have I2 := Inv.aft I1' (aft_of I1 k1 k4) hex hf5
        have J2 : Inv (handX X pins e) [] σ1 H1 { s1 with heap := h2 } := inv_hand (inv_untry I2)
        have k3' := k3
        obtain ⟨oe, vs, T, oT, ts, t1, ⟨t2, t3⟩, t4, _⟩ := k3'
        obtain ⟨xC, xm⟩ := xk c C hcm hC
        refine wpAny_handleBy_cons (codeAny_handlers_test (ld_glob (X := handX X pins e) J2 hgJ hmJ ?_ hdb)) (by intro z; cases z)
        refine exc_match (mg := fun _ => some (.ref C)) (y := n) J2.kIn (own_in J2.kIn rfl xC) (own_in J2.kIn hmJ KJ) t1 t2 xm ?_
        show codeAny _ _ (.handlers (.ref e) [.ExceptHandler none (some n) [.Return (some hx) rp2] hpos] X.env) _ _
        refine codeAny_handlers_suite_as ?_
        refine wpAny_setFlight_noneW (s := { s1 with heap := h2 }) k1 k2 k3.at fun h3 m1 m2 m3 m4 => ?_
        have A3 : Aft (tryX X pins _) e Ts s1.heap h3 := aft_of I1 m1 fun b o q d => by
          obtain ⟨sl, q'⟩ := k4 b o q d
          exact ⟨sl, m4 b _ q' d⟩
        have I3 := Inv.aft I1' A3 hex hf5
        obtain ⟨oe3, vs3, T3, oT3, ts3, u1, ⟨u2, u3⟩, u4, _⟩ := m3
        have I4 := Inv.freeze I3 fe u1 u4 fn.1 fun p hp => fn.2 p (by simpa using hp)
        have J4 : Inv (handX X pins e) [] σ1 (upd H1 e (.frz oe3 (.ext fun _ => True))) { s1 with heap := h3 } := inv_hand (inv_untry I4)
        refine store_ok (X := handX X pins e) J4 hN hi (.inl hl) (v := .ref e) rfl (fun s5 J5 => ?_) (.inr hl)
        have rep : Rep X.K (upd H1 e (.frz oe3 (.ext fun _ => True))) (.exn c) (.ref e) := ⟨e, oe3, _, C, rfl, upd_same, u2, hC⟩
        have E5 : Envs X.K (upd H1 e (.frz oe3 (.ext fun _ => True))) (σ1.set i (some (.ref e))) ((List.replicate N none).set i (some (.exn c))) := by
          refine Envs.set (ρ := List.replicate N none) ⟨?_, fun j d hj => ?_⟩ rep
          · rw [I1.len, List.length_replicate]; exact hNl
          · rw [List.getElem?_replicate] at hj
            split at hj <;> cases hj
        match hg : g ((List.replicate N none).set i (some (.exn c))) with
        | none => rw [hg] at o; exact o.elim
        | some (.exc c2) => rw [hg] at o; exact o.elim
        | some (.ok d) =>
          rw [hg] at o
          have hrun := (fss_one (fs_ret (pos := rp2) (hh pins e))).h [] s5 _ _ { nx := fun _ _ => False, rt := D.rt } J5 ⟨_, E5, (by
            unfold fRet
            rw [hg]
            exact fun v H' e1 r => o v H' ((same.trans (same_new fe _)).trans e1) r)⟩
          refine wpAny_mono hrun (fun fl s6 hs => ?_) fun _ _ z => z.elim
          cases fl with
          | ret u =>
            obtain ⟨v, σ6, H6, J6, rv, q6⟩ := hs
            have J7 : Inv X pins σ6 H6 s6 := inv_unhand I.ok J6
            have hil : i < σ6.length := by rw [J7.len]; exact (List.getElem?_eq_some_iff.mp hi).1
            refine wpAny_bind (wpAny_bindName (store_ok J7 hN hi (.inl hl) (v := .non) rfl (fun s7 J8 => ?_) (.inr hl)))
            exact unbind_ok J8 hN hi hl (v := .non) (List.getElem?_set_self hil) fun s8 J9 => ⟨v, _, H6, J9, rv, q6⟩
          | next => obtain ⟨_, _, _, z⟩ := hs; exact False.elim z
          | brk => obtain ⟨_, _, _, z⟩ := hs; exact False.elim z
          | cont => obtain ⟨_, _, _, z⟩ := hs; exact False.elim z
      · rw [if_neg hcm] at o
        exact o.elim
  · cases fl with
    | ret u =>
      obtain ⟨v, σ', H', I', rv, q⟩ := hs
      exact ⟨v, σ', H', inv_untry I', rv, q⟩
    | next => obtain ⟨_, _, _, z⟩ := hs; exact False.elim z
    | brk => obtain ⟨_, _, _, z⟩ := hs; exact False.elim z
    | cont => obtain ⟨_, _, _, z⟩ := hs; exact False.elim z
end
end FD
namespace FD
open PySem PySem.Spec PyProof.Rows L2
def cntD : List Dv → List Dv → Option (Rs Dv)
  | xs, [x] => if flatD x && xs.all flatD && decide (xs.length ≤ 100000) then some (.ok (.int (xs.countP (fun y => eqF y x) : Nat))) else none
  | _, _ => none
def rCount : V → List V → Hp → VK → Prop := fun x xs H Q => ∃ a vs y, x = .ref a ∧ xs = [y] ∧ H a = some (.lst vs) ∧ flatV y = true ∧ vs.all flatV = true ∧ vs.length ≤ 100000 ∧ Q (.int (vs.countP (fun v => eqV v y) : Nat)) H
section
variable {X : Cx} {apos cpos : Pos} {e o : Expr} {es : List Expr} {ga : FnA} {fo : FnE}
theorem count_vals {y : V} : ∀ {vs : List V} {its : List Value}, Vals vs its → vs.all flatV = true → its.countP (eqU y) = vs.countP fun v => eqV v y
  | _, _, .nil, _ => rfl
  | _, _, .cons (a := v) (b := u) r t, f => by
    rw [List.all_cons, Bool.and_eq_true] at f
    rw [List.countP_cons, List.countP_cons, count_vals t f.2, eqU_of r f.1]
theorem mt_lcount : MtR X "list.count" rCount := by
  intro pins s σ H x xs v us Q I rx rs h
  obtain ⟨a, vs, y, rfl, rfl, h1, fy, fv, hz, q⟩ := h
  cases rx
  obtain ⟨u, rfl, ru⟩ := vals1 rs
  obtain ⟨z, its, n, rv, hl, e⟩ := I.lstM h1
  refine call_meets PySem.F.slot_list_count ⟨_, e, rfl⟩ PySem.F.entry_list_count (PySem.F.args_list_count_2 _ _) (SeqAt.list_countAt a its.toArray n none #[] u (eqU y)) ⟨e, fun t ht => mem_eqAt ru fy rv fv t (by simpa using ht), ⟨.int (vs.countP (fun v => eqV v y) : Nat), H, I.tok _, ⟨s.toks, ?_⟩, q⟩⟩
  have := count_vals (y := y) rv fv
  rw [List.toList_toArray, this]
theorem cnt_ok {K : PySem.W.Frag} {H : Hp} {x : Dv} {u : V} (q : Rep K H x u) (hx : flatD x = true) : ∀ {xs : List Dv} {vs : List V}, Reps K H xs vs → xs.all flatD = true → vs.countP (fun v => eqV v u) = xs.countP fun y => eqF y x
  | [], vs, r, _ => by cases (show vs = [] from r); rfl
  | y :: ys, vs, r, f => by
    obtain ⟨v, ws, rfl, r1, r2⟩ : ∃ v us, vs = v :: us ∧ Rep K H y v ∧ Reps K H ys us := r
    rw [List.all_cons, Bool.and_eq_true] at f
    rw [List.countP_cons, List.countP_cons, cnt_ok q hx r2 f.2, eqF_ok r1 q f.1 hx]
theorem fe_count (ho : FE X o fo) (ha : FA X (e :: es) ga)
    (hbase : attributeBase o "count" X.env (eval o X.env) = eval o X.env := by kernel_rfl)
    (hfew : ((backTo cpos (starEach (e :: es) X.env)).all (fun x => !x.1) && (backToKw cpos (keywordEach [] X.env)).all (fun x => x.1.isSome)
      && decide ((e :: es).length + ([] : List Keyword).length + (if ([] : List Keyword).isEmpty then 0 else 1) < 30)) = true := by kernel_rfl)
    (hline : (apos.endLine == cpos.line) = true := by kernel_rfl) (hs : starEach (e :: es) X.env = (false, eval e X.env) :: starEach es X.env := by kernel_rfl) (hplain : (backTo cpos (starEach es X.env)).any (·.1) = false := by kernel_rfl) :
    FE X (.Call (.Attribute o "count" apos) (e :: es) [] cpos) (fML cntD fo ga) :=
  fe_of (pe_bm PySem.F.plainAttrs_list PySem.F.slot_list_count PySem.F.type_list_count mt_lcount ho.h ha.h hbase hfew hline hs hplain) fun σ H Q ρ E o => ⟨ρ, E, Out.bind o fun d v H1 e1 rd o1 => by
    cases d <;> try exact (show False from o1).elim
    rename_i ds
    obtain ⟨a, vs, rfl, h1, h2⟩ := rd.lstE
    refine ⟨.inl ⟨rfl, vs, SqL.of h1⟩, ρ, E.mono e1, OutA.bind o1 fun es ws H2 e2 rs o2 => ?_⟩
    unfold cntD at o2
    split at o2
    · rename_i x
      split at o2
      · rename_i hc
        rw [Bool.and_eq_true, Bool.and_eq_true] at hc
        obtain ⟨w, rfl, rw'⟩ := reps1 rs
        have h2' := Reps.mono e2 _ _ h2
        refine ⟨a, vs, w, rfl, rfl, e2 _ _ h1, flat_ok rw' hc.1.1, flats_ok h2' hc.1.2, by rw [h2.length]; exact of_decide_eq_true hc.2, ?_⟩
        rw [cnt_ok rw' hc.1.1 h2' hc.1.2]
        exact o2 _ H2 (.refl H2) rfl
      · exact o2.elim
    · exact o2.elim⟩
end
section
variable {X : Cx} {a b c : Expr} {fa fb fc : FnE} {pos : Pos}
end
def strMul (x : Str) (n : Int) : Str := if n < 1 then Str.empty else if (n == 1 || x.length == 0) = true then x else ⟨(List.replicate n.toNat x.cps).foldl (· ++ ·) #[]⟩
def mulX : Dv → Dv → Option (Rs Dv)
  | .str x, .int n => if x.length ≤ 1000 ∧ -1000 ≤ n ∧ n ≤ 1000 then some (.ok (.str (strMul x n))) else none
  | x, y => mulD x y
section
variable {X : Cx}
def rMulS : R2 := fun x y H Q => ∃ i n, x = .str i ∧ y = .int n ∧ (i.length ≤ 1000 ∧ -1000 ≤ n ∧ n ≤ 1000) ∧ Q (.str (strMul i n)) H
theorem rep_size (a : Array Nat) : ∀ (k : Nat) (acc : Array Nat), ((List.replicate k a).foldl (· ++ ·) acc).size = acc.size + k * a.size
  | 0, acc => by simp
  | k + 1, acc => by
    rw [List.replicate_succ, List.foldl_cons, rep_size a k (acc ++ a), Array.size_append, Nat.succ_mul]
    omega
theorem million {a n : Nat} (h1 : a ≤ 1000) (h2 : n ≤ 1000) : n * a ≤ sizeLine := by
  have h3 : n * a ≤ 1000 * 1000 := Nat.mul_le_mul h2 h1
  rw [sizeLine_eq]
  exact Nat.le_trans h3 (by decide)
theorem op_mulS : OpR X (binaryOp .Mult) rMulS := by
  intro pins s σ H x y v u Q I rx ry ⟨i, n, hx, hy, hc, q⟩
  subst hx hy
  obtain ⟨t, rfl⟩ := rx
  obtain ⟨t2, rfl⟩ := ry
  have h0 : (decide (n < -(2 ^ 63 : Int)) || decide (n ≥ 2 ^ 63)) = false := by
    have h1 : ¬ n < -(2 ^ 63 : Int) := by omega
    have h2 : ¬ n ≥ 2 ^ 63 := by omega
    rw [decide_eq_false h1, decide_eq_false h2]; rfl
  refine P.mul_str h0 (fun h1 h2 h3 => ?_) (fun h1 h2 => ?_) ?_
  · have hn : 0 < n := by omega
    have e1 := Int.mul_ediv_add_emod (2 ^ 63 - 1) n
    have e2 := Int.emod_lt_of_pos (2 ^ 63 - 1) hn
    have hq : (2 ^ 63 - 1 : Int) / n < 1000 := by omega
    have hq0 : 0 ≤ (2 ^ 63 - 1 : Int) / n := Int.ediv_nonneg (by decide) (by omega)
    have h4 : n * ((2 ^ 63 - 1 : Int) / n) ≤ 1000 * ((2 ^ 63 - 1 : Int) / n) := Int.mul_le_mul_of_nonneg_right hc.2.2 hq0
    omega
  · show decide (i.length * n.toNat > sizeLine) = false
    have := million (a := i.length) (n := n.toNat) hc.1 (by omega)
    rw [Nat.mul_comm]
    exact decide_eq_false (by omega)
  · unfold strMul at q
    split
    · rename_i h1
      rw [if_pos h1] at q
      exact ⟨by decide, ⟨.str Str.empty, H, I.tok _, ⟨_, rfl⟩, q⟩⟩
    · rename_i h1
      rw [if_neg h1] at q
      split
      · rename_i h2
        rw [if_pos h2] at q
        exact ⟨.str i, H, I, ⟨_, rfl⟩, q⟩
      · rename_i h2
        rw [if_neg h2] at q
        refine ⟨?_, ⟨.str _, H, I.tok _, ⟨_, rfl⟩, q⟩⟩
        show ((List.replicate n.toNat i.cps).foldl (· ++ ·) #[]).size ≤ sizeLine
        rw [rep_size]
        have := million (a := i.length) (n := n.toNat) hc.1 (by omega)
        have e : i.cps.size = i.length := rfl
        rw [e]
        simpa using this
theorem o_mulX : OpR X (binaryOp .Mult) (fun x y H Q => rMulS x y H Q ∨ rI CMul (fun i j => .int (i * j)) x y H Q) := op_mulS.or op_mul
theorem g_mulX : GOp X (fun x y H Q => rMulS x y H Q ∨ rI CMul (fun i j => .int (i * j)) x y H Q) mulX := by
  intro dx dy x y H Q rx ry o
  cases dx with
  | str i =>
    cases dy with
    | int n =>
      have o2 : Out X H (if i.length ≤ 1000 ∧ -1000 ≤ n ∧ n ≤ 1000 then some (.ok (.str (strMul i n))) else none) Q := o
      by_cases hc : i.length ≤ 1000 ∧ -1000 ≤ n ∧ n ≤ 1000
      · rw [if_pos hc] at o2
        exact .inl ⟨i, n, rx, ry, hc, o2 _ H (.refl H) rfl⟩
      · rw [if_neg hc] at o2
        exact o2.elim
    | _ => exact (show False from o).elim
  | _ => exact .inr (g_mul _ _ x y H Q rx ry o)
end
end FD
namespace FD
open PySem PySem.Spec PyProof.Rows L2 PySem.W
def xiB (K : PySem.W.Frag) (C : Addr) : Bool := findIn K (.ref C) "__getattribute__" == some (some (.builtin "BaseException.__getattribute__")) && findIn K (.ref C) "__getattr__" == some none && findIn K (.ref C) "__class__" == some (some (.builtin "object.__class__")) &&
  specialIn K (.builtin "object.__class__") "__get__" == some (some (.builtin "getset_descriptor.__get__")) && takesIn K (.builtin "object.__class__") == some true && mroIn K C (.type "object") == some true && mroIn K C (.type "BaseException") == some true
theorem xi_of {K : PySem.W.Frag} {C : Addr} (h : xiB K C = true) : XI K C := by
  unfold xiB at h
  simp only [Bool.and_eq_true, beq_iff_eq] at h
  exact ⟨h.1.1.1.1.1.1, h.1.1.1.1.1.2, h.1.1.1.1.2, h.1.1.1.2, h.1.1.2, h.1.2, h.2⟩
def clsB (K : PySem.W.Frag) (Cs : List Addr) (CJ : Addr) : Bool := excIn K CJ bmV "ValueError.__new__" && (List.range Cs.length).all fun c => excIn K (Cs.getD c 0) bmV "ValueError.__new__" && xiB K (Cs.getD c 0) && mroIn K (Cs.getD c 0) (.ref CJ) == some true &&
  kitOne K (.ref (Cs.getD c 0)) (.type "ValueError") == some true && (List.range Cs.length).all fun d => kitOne K (.ref (Cs.getD c 0)) (.ref (Cs.getD d 0)) == some (c == d)
structure XAll (K : PySem.W.Frag) (m : Nat) (cls : Nat → Addr) (CJ : Addr) : Prop where
  at_ : ∀ c, c < m → nsIn K mainGlobals (xnm c) = some (some (.ref (cls c))) ∧ excIn K (cls c) bmV "ValueError.__new__" = true ∧ XI K (cls c) ∧ mroIn K (cls c) (.ref CJ) = some true ∧ kitOne K (.ref (cls c)) (.type "ValueError") = some true ∧ ∀ d, d < m → kitOne K (.ref (cls c)) (.ref (cls d)) = some (c == d)
  exJ : excIn K CJ bmV "ValueError.__new__" = true
theorem xall_of {K : PySem.W.Frag} {m : Nat} {Cs : List Addr} {CJ : Addr} (hm : m = Cs.length) (hn : ∀ c, c < m → nsIn K mainGlobals (xnm c) = some (some (.ref (Cs.getD c 0)))) (h : clsB K Cs CJ = true) : XAll K m (fun c => Cs.getD c 0) CJ := by
  subst hm
  unfold clsB at h
  rw [Bool.and_eq_true] at h
  refine ⟨fun c hc => ?_, h.1⟩
  have h1 := List.all_eq_true.mp h.2 c (List.mem_range.mpr hc)
  simp only [Bool.and_eq_true, beq_iff_eq] at h1
  exact ⟨hn c hc, h1.1.1.1.1, xi_of h1.1.1.1.2, h1.1.1.2, h1.1.2, fun d hd => by
    have h2 := List.all_eq_true.mp h1.2 d (List.mem_range.mpr hd)
    simpa using h2⟩
section
variable {K : PySem.W.Frag} {m : Nat} {cls : Nat → Addr} {CJ : Addr} (x : XAll K m cls CJ)
include x
theorem XAll.xc (c : Nat) (h : c < m) : XC K c (cls c) := ⟨(x.at_ c h).1, (x.at_ c h).2.1⟩
theorem XAll.same {c : Nat} {C : Addr} (h : c < m) (q : nsIn K mainGlobals (xnm c) = some (some (.ref C))) : C = cls c := by
  have z := (x.at_ c h).1
  rw [q] at z
  cases z
  rfl
theorem XAll.xk : ∀ c C, c < m → nsIn K mainGlobals (xnm c) = some (some (.ref C)) → excIn K C bmV "ValueError.__new__" = true ∧ mroIn K C (.ref CJ) = some true := fun c C h q => by
  rw [x.same h q]
  exact ⟨(x.at_ c h).2.1, (x.at_ c h).2.2.2.1⟩
theorem XAll.xtO (d : Nat) (hd : d < m) : XT K (fun c => if c < m then some (c == d) else none) (.ref (cls d)) := fun c b hb C q => by
  dsimp only at hb
  split at hb
  · rename_i h
    cases hb
    rw [x.same h q]
    exact ⟨(x.at_ c h).2.2.1, (x.at_ c h).2.2.2.2.2 d hd⟩
  · cases hb
theorem XAll.xtV : XT K (fun c => if c < m then some true else none) (.type "ValueError") := fun c b hb C q => by
  dsimp only at hb
  split at hb
  · rename_i h
    cases hb
    rw [x.same h q]
    exact ⟨(x.at_ c h).2.2.1, (x.at_ c h).2.2.2.2.1⟩
  · cases hb
end
end FD
namespace FD
open PySem
theorem bt_ValueError : bootBuiltins (Str.ofString "ValueError") = some (.type "ValueError") := by kernel_rfl
end FD
namespace FD
open PySem PySem.Spec PyProof.Rows L2
section
variable {X : Cx}
end
end FD
namespace FD
open PySem PySem.Spec PyProof.Rows L2
section
variable {X : Cx}
def addT (x y : Dv) : Option (Rs Dv) := match x, y with
  | .tup a, .tup b => if a.length + b.length ≤ 100000 then some (.ok (.tup (a ++ b))) else none
  | x, y => addD x y
theorem cat_tup0 {prog : Program} {w : World} {A : Around} {E : Value → Shared → Prop} {s : Shared} {t b : Addr} {ws : List Value} {Q : Value → Shared → Prop} (ht : IsTup s.heap t #[]) (hb : IsTup s.heap b ws.toArray) (h0 : Q (.ref b) s) :
    wpAny (model prog w) A (binaryOp .Add (.ref t) (.ref b)) Q E s := by
  obtain ⟨⟨cls, dd, data, sl⟩, ho, hc, n, hd⟩ := id ht
  obtain ⟨⟨cls2, dd2, data2, sl2⟩, ho2, hc2, n2, hd2⟩ := id hb
  simp only at hc hd hc2 hd2
  subst hc hd hc2 hd2
  exact concat_meets ⟨_, ho, rfl⟩ ⟨_, ho2, rfl⟩ noFill_tuple_add seq_tuple_add PySem.F.slot_tuple_add PySem.F.entry_tuple_add (PySem.F.args_tuple_add_2 _ _)
      (tuple_addW0 t b #[] ws.toArray n n2 dd dd2 sl sl2 (by simp)) ⟨ho, ho2, h0⟩
def rCatT0 (K : PySem.W.Frag) : R2 := fun x y H Q => ∃ a b ys, x = .ref a ∧ y = .ref b ∧ SqT K H a [] ∧ SqT K H b ys ∧ Q (.ref b) H
theorem op_catT0 : OpR X (binaryOp .Add) (rCatT0 X.K) := by
  intro pins s σ H x y v u Q I rx ry h
  obtain ⟨a, b, ys, rfl, rfl, ha, hb, q⟩ := h
  cases rx
  cases ry
  obtain ⟨its, r1, p1, _⟩ := I.tuple ha
  obtain ⟨its2, r2, p2, _⟩ := I.tuple hb
  cases r1
  exact cat_tup0 p1 p2 ⟨.ref b, H, I, rfl, q⟩
def rAddT (X : Cx) : R2 := fun x y H Q => rAdd3 x y H Q ∨ (rCatT X.K x y H Q ∨ rCatT0 X.K x y H Q)
theorem o_addT : OpR X (binaryOp .Add) (rAddT X) := o_add.or (op_catT.or op_catT0)
theorem addT_else {x y : Dv} (h : ∀ a b, ¬ (x = .tup a ∧ y = .tup b)) : addT x y = addD x y := by
  unfold addT
  split
  · rename_i a b
    exact absurd ⟨rfl, rfl⟩ (h a b)
  · rfl
theorem g_addT : GOp X (rAddT X) addT := by
  intro dx dy x y H Q rx ry o
  by_cases hc : ∃ a b, dx = .tup a ∧ dy = .tup b
  · obtain ⟨a, b, rfl, rfl⟩ := hc
    have o' : Out X H (if a.length + b.length ≤ 100000 then some (.ok (.tup (a ++ b))) else none) Q := o
    split at o'
    · rename_i hl
      obtain ⟨p, xs, rfl, h1, q1⟩ := rx.tupE
      obtain ⟨p2, ys, rfl, h2, q2⟩ := ry.tupE
      cases xs with
      | nil =>
        have ha : a = [] := by
          have := q1.length
          exact List.length_eq_zero_iff.mp this.symm
        subst ha
        exact .inr (.inr ⟨p, p2, ys, rfl, rfl, SqT.of h1, SqT.of h2, o' _ H (.refl H) ⟨p2, ys, rfl, h2, by simpa using q2⟩⟩)
      | cons x0 xs =>
        refine .inr (.inl ⟨p, p2, x0 :: xs, ys, rfl, rfl, SqT.of h1, SqT.of h2, by simp, by rw [q1.length, q2.length]; exact le_line hl, fun hy => ?_, fun hy l hl => o' _ _ (same_new hl _) ⟨l, _, rfl, upd_same, Reps.mono (same_new hl _) _ _ (q1.append q2)⟩⟩)
        subst hy
        have hb : b = [] := List.length_eq_zero_iff.mp q2.length.symm
        subst hb
        exact o' _ H (.refl H) ⟨p, _, rfl, h1, by simpa using q1⟩
    · exact o'.elim
  · rw [addT_else (fun a b h => hc ⟨a, b, h⟩)] at o
    exact .inl (g_add dx dy x y H Q rx ry o)
theorem getItem_tuple_whole {prog : Program} {w : World} {A : Around} {E : Value → Shared → Prop} {s : Shared} {t sl : Addr} {items : Array Value} {vl vu : Value} {lo hi : Option Int} {Q : Value → Shared → Prop} (ht : IsTup s.heap t items) (hs : s.heap.IsSliceOf sl vl vu .none) (pl : IsPart vl lo) (pu : IsPart vu hi)
    (hw : HT.sIx items.size 0 lo = 0 ∧ HT.sIx items.size items.size hi = items.size) (h : Q (.ref t) s) : wpAny (model prog w) A (getItem (.ref t) (.ref sl)) Q E s := by
  obtain ⟨os, hos, hcs, hds⟩ := id hs
  have hTs : s.TypeIs (.ref sl) "slice" := ⟨os, hos, hcs⟩
  unfold getItem
  try with_reducible refine wpAny_holding ?_
  first | refine wpAny_bind (wpAny_pure ?_) | skip
  refine wpAny_bind (wpAny_sequenceKey ht.typeIs (by decide) ?_)
  refine wpAny_bind (wpAny_callSpecial?_slot (name := Str.ofString "__getitem__") ht.typeIs PyProof.Rows.slot_tuple_getitem
    (wpAny_call_entry PyProof.Rows.slot_tuple_getitem ht.typeIs entry_tuple_getitem ?_ (args_tuple_getitem _ _)))
  show wpAny _ _ (Builtin.Tuple.tupleItemsOf (.ref t) >>= _) _ _ s
  refine wpAny_bind (tupleItemsOf_ ht ?_)
  refine wpAny_bind (wpAny_typeOf hTs ?_)
  rw [if_pos (by decide)]
  refine wpAny_bind (HT.sliceApplied_gen hs pl pu ?_)
  have hyes : (((HT.sIx items.size 0 lo : Nat) : Int) == 0 && (1 : Int) == 1 && (HT.sIx items.size items.size hi - HT.sIx items.size 0 lo) == items.size) = true := by
    rw [hw.1, hw.2]
    simp
  show wpAny _ _ (if (((HT.sIx items.size 0 lo : Nat) : Int) == 0 && (1 : Int) == 1 && (HT.sIx items.size items.size hi - HT.sIx items.size 0 lo) == items.size) = true then _ else _) _ _ s
  rw [if_pos hyes]
  refine wpAny_bind (wpAny_bind (wpAny_typeOf ht.typeIs (wpAny_pure ?_)))
  rw [if_pos (by decide)]
  exact wpAny_bind (wpAny_rule (wpAny_pure ⟨_, rfl, wpAny_pure h⟩))
def rSlW (K : PySem.W.Frag) : V → Option Int → Option Int → Hp → VK → Prop := fun x lo hi H Q => ∃ a xs, x = .ref a ∧ SqT K H a xs ∧
  (HT.sIx xs.length 0 lo = 0 ∧ HT.sIx xs.length xs.length hi = xs.length) ∧ Q (.ref a) H
theorem sl_whole : SlR X (rSlW X.K) := by
  intro pins s σ H x v vl vu lo hi sl Q I rx hs pl pu h
  obtain ⟨a, xs, rfl, hx, hw, q⟩ := h
  cases rx
  obtain ⟨its, r, ht, hz⟩ := I.tuple hx
  have hlen : its.toArray.size = xs.length := by rw [List.size_toArray]; exact r.length.symm
  refine ⟨"tuple", _, PyProof.Rows.slot_tuple_getitem.lookup, ht.typeIs, ?_⟩
  exact getItem_tuple_whole ht hs pl pu (by rw [hlen]; exact hw) ⟨.ref a, H, I, rfl, q⟩
def cutT (x : Dv) (lo hi : Option Int) : Option (Rs Dv) := match x with
  | .tup xs => some (.ok (.tup (cutL xs lo hi)))
  | x => cutD x lo hi
def fCutT (fa : FnE) (fl fh : FnO) : FnE := fun ρ => bnd (fa ρ) fun x => bnd (fl ρ) fun lo => bnd (fh ρ) fun hi => cutT x lo hi
theorem cutL_whole {α : Type} {xs : List α} {lo hi : Option Int} (h : HT.sIx xs.length 0 lo = 0 ∧ HT.sIx xs.length xs.length hi = xs.length) : cutL xs lo hi = xs := by
  unfold cutL
  rw [h.1, h.2]
  simp
theorem fe_cutT {a : Expr} {lo hi : Option Expr} {fa : FnE} {fl fh : FnO} {p2 pos : Pos} (ha : FE X a fa) (hl : FO X lo fl) (hh : FO X hi fh) : FE X (.Subscript a (.Slice lo hi none p2) pos) (fCutT fa fl fh) :=
  fe_of (pe_slice ((sl_str.or sl_list).or (sl_tup.or sl_whole)) ha.h hl.h hh.h) fun σ H Q ρ E o => ⟨ρ, E, Out.bind o fun d v H1 e1 r1 o1 => ⟨ρ, E.mono e1, outO_bind o1 fun l H2 e2 o2 => ⟨ρ, (E.mono e1).mono e2, outO_bind o2 fun u H3 e3 o3 => by
    have r3 := Rep.mono e3 d v (Rep.mono e2 d v r1)
    cases d <;> try exact (show False from o3).elim
    · rename_i z
      unfold cutT cutD at o3
      dsimp only at o3
      split at o3
      · rename_i hz
        exact .inl (.inl ⟨z, r3, le_line hz, o3 _ H3 (.refl H3) rfl⟩)
      · exact o3.elim
    · rename_i ds
      obtain ⟨a', xs, rfl, h1, h2⟩ := r3.tupE
      have hlen := h2.length
      by_cases hw : HT.sIx xs.length 0 l = 0 ∧ HT.sIx xs.length xs.length u = xs.length
      · refine .inr (.inr ⟨a', xs, rfl, SqT.of h1, hw, o3 _ H3 (.refl H3) ⟨a', xs, rfl, h1, ?_⟩⟩)
        rw [cutL_whole (by rw [← hlen]; exact hw)]
        exact h2
      · refine .inr (.inl ⟨a', xs, rfl, SqT.of h1, hw, fun p hp => o3 _ _ (same_new hp _) ⟨p, _, rfl, upd_same, Reps.mono (same_new hp _) _ _ ?_⟩⟩)
        unfold cutV cutL
        rw [h2.length]
        exact (h2.drop _).take _
    · rename_i ds
      obtain ⟨a', xs, rfl, h1, h2⟩ := r3.lstE
      refine .inl (.inr ⟨a', xs, rfl, SqL.of h1, fun p hp => o3 _ _ (same_new hp _) ⟨p, _, rfl, upd_same, Reps.mono (same_new hp _) _ _ ?_⟩⟩)
      unfold cutV cutL
      rw [h2.length]
      exact (h2.drop _).take _⟩⟩⟩
theorem adjust_back (n : Nat) : Builtin.Slice.sliceAdjust none none (-1) (n : Int) = ((n : Int) - 1, -1) := rfl
theorem places_back (n : Nat) : Builtin.Slice.slicePlaces ((n : Int) - 1) (-1) (-1) = n := by
  unfold Builtin.Slice.slicePlaces
  have h1 : ¬ ((-1 : Int) > 0) := by omega
  simp only [h1, if_false]
  split
  · have : ((n : Int) - 1 - (-1) - 1) / (-(-1)) = (n : Int) - 1 := by simp
    omega
  · omega
theorem sliceApplied_back {prog : Program} {w : World} {A : Around} {E : Value → Shared → Prop} {s : Shared} {sl : Addr} {t : Tok} {n : Nat} {Q : Int × Int × Nat → Shared → Prop} (hs : s.heap.IsSliceOf sl .none .none (.int (-1) t))
    (h : Q ((n : Int) - 1, -1, n) s) : wpAny (model prog w) A (Builtin.Slice.sliceApplied (.ref sl) (pure (n : Int))) Q E s := by
  obtain ⟨os, hos, hcs, hds⟩ := id hs
  unfold Builtin.Slice.sliceApplied Builtin.Slice.sliceFields
  refine wpAny_bind (wpAny_bind (wpAny_field hos hds (x := .none) rfl (wpAny_bind (wpAny_field hos hds (x := .none) rfl (wpAny_bind (wpAny_field hos hds (x := .int (-1) t) rfl (wpAny_pure ?_)))))))
  refine wpAny_bind (slicePart_int ?_)
  show wpAny _ _ (if ((-1 : Int) == 0) = true then _ else _) _ _ s
  rw [if_neg (by decide)]
  refine wpAny_bind (slicePart_none (wpAny_bind (slicePart_none (wpAny_bind (wpAny_pure ?_)))))
  show wpAny _ _ (match Builtin.Slice.sliceAdjust none none (-1) (n : Int) with | (lo, hi) => pure (lo, (-1 : Int), Builtin.Slice.slicePlaces lo hi (-1))) _ _ s
  rw [adjust_back n]
  show wpAny _ _ (pure ((n : Int) - 1, (-1 : Int), Builtin.Slice.slicePlaces ((n : Int) - 1) (-1) (-1))) _ _ s
  rw [places_back]
  exact wpAny_pure h
theorem filterMap_map' {α β : Type} {f : α → Option β} {g : α → β} : ∀ (l : List α), (∀ m, m ∈ l → f m = some (g m)) → l.filterMap f = l.map g
  | [], _ => rfl
  | x :: l, h => by
    rw [List.filterMap_cons, h x (by simp), List.map_cons, filterMap_map' l fun m hm => h m (List.mem_cons_of_mem _ hm)]
theorem pick_back (xs : List Value) : ((List.range xs.length).filterMap fun (m : Nat) => xs.toArray[((xs.length : Int) - 1 + (m : Int) * -1).toNat]?).toArray = xs.reverse.toArray := by
  congr 1
  apply List.ext_getElem?
  have e : ∀ m, m ∈ List.range xs.length → (xs.toArray[((xs.length : Int) - 1 + (m : Int) * -1).toNat]?) = some (xs.reverse[m]?.getD .none) := fun m hm => by
    have hm' : m < xs.length := List.mem_range.mp hm
    have h1 : ((xs.length : Int) - 1 + (m : Int) * -1).toNat = xs.length - 1 - m := by omega
    rw [h1, List.getElem?_toArray, List.getElem?_reverse hm', List.getElem?_eq_getElem (by omega)]
    rfl
  intro i
  rw [filterMap_map' _ e]
  by_cases hi : i < xs.length
  · rw [List.getElem?_map, List.getElem?_range hi]
    show some (xs.reverse[i]?.getD .none) = _
    rw [List.getElem?_eq_getElem (by simpa using hi)]
    rfl
  · rw [List.getElem?_eq_none (by simpa using hi), List.getElem?_eq_none (by simpa using hi)]
theorem getItem_tuple_back {prog : Program} {w : World} {A : Around} {E : Value → Shared → Prop} {s : Shared} {t sl : Addr} {its : List Value} {tk : Tok} {Q : Value → Shared → Prop} (ht : IsTup s.heap t its.toArray) (hs : s.heap.IsSliceOf sl .none .none (.int (-1) tk))
    (h : Q (.ref s.heap.objs.size) { s with heap := s.heap.push { cls := .type "tuple", data := .seq its.reverse.toArray } }) (hsz : its.length ≤ sizeLine) : wpAny (model prog w) A (getItem (.ref t) (.ref sl)) Q E s := by
  have htake : sizeOk (.seq its.reverse.toArray) := by
    show its.reverse.toArray.size ≤ sizeLine
    rw [List.size_toArray, List.length_reverse]
    exact hsz
  obtain ⟨os, hos, hcs, hds⟩ := id hs
  have hTs : s.TypeIs (.ref sl) "slice" := ⟨os, hos, hcs⟩
  unfold getItem
  try with_reducible refine wpAny_holding ?_
  first | refine wpAny_bind (wpAny_pure ?_) | skip
  refine wpAny_bind (wpAny_sequenceKey ht.typeIs (by decide) ?_)
  refine wpAny_bind (wpAny_callSpecial?_slot (name := Str.ofString "__getitem__") ht.typeIs PyProof.Rows.slot_tuple_getitem
    (wpAny_call_entry PyProof.Rows.slot_tuple_getitem ht.typeIs entry_tuple_getitem ?_ (args_tuple_getitem _ _)))
  show wpAny _ _ (Builtin.Tuple.tupleItemsOf (.ref t) >>= _) _ _ s
  refine wpAny_bind (tupleItemsOf_ ht ?_)
  refine wpAny_bind (wpAny_typeOf hTs ?_)
  rw [if_pos (by decide)]
  rw [List.size_toArray]
  refine wpAny_bind (sliceApplied_back hs ?_)
  have hno : ¬ ((((its.length : Int) - 1) == 0 && (-1 : Int) == 1 && its.length == its.length) = true) := by
    intro q
    rw [Bool.and_eq_true, Bool.and_eq_true] at q
    exact absurd q.1.2 (by decide)
  show wpAny _ _ (if (((its.length : Int) - 1) == 0 && (-1 : Int) == 1 && its.length == its.length) = true then _ else _) _ _ s
  rw [if_neg hno, pick_back]
  first
    | exact wpAny_bind (m := Builtin.Tuple.tupleExact _) (wpAny_newObj_type (wpAny_pure ⟨_, rfl, wpAny_pure h⟩) htake)
    | exact wpAny_bind (m := Builtin.Tuple.tupleExact _) (wpAny_newObj_type (wpAny_bind (wpAny_pure (wpAny_pure ⟨_, rfl, wpAny_pure h⟩))) htake)
    | exact wpAny_bind (wpAny_bind (m := Builtin.Tuple.tupleExact _) (wpAny_newObj_type (wpAny_pure (wpAny_pure ⟨_, rfl, wpAny_pure h⟩)) htake))
    | exact wpAny_bind (wpAny_bind (m := Builtin.Tuple.tupleExact _) (wpAny_newObj_type (wpAny_pure ⟨_, rfl, wpAny_pure h⟩) htake))
theorem Reps.reverse {K : PySem.W.Frag} {H : Hp} : ∀ {ds : List Dv} {vs : List V}, Reps K H ds vs → Reps K H ds.reverse vs.reverse
  | [], vs, r => by cases (show vs = [] from r); exact r
  | d :: ds, vs, r => by
    obtain ⟨v, us, rfl, r1, r2⟩ : ∃ v us, vs = v :: us ∧ Rep K H d v ∧ Reps K H ds us := r
    rw [List.reverse_cons, List.reverse_cons]
    exact (Reps.reverse r2).append ⟨v, [], rfl, r1, rfl⟩
theorem Vals.reverse : ∀ {xs : List V} {us : List Value}, Vals xs us → Vals xs.reverse us.reverse
  | _, _, .nil => .nil
  | x :: xs, u :: us, .cons r t => by
    rw [List.reverse_cons, List.reverse_cons]
    exact (Vals.reverse t).append (.cons r .nil)
def backD : Dv → Option (Rs Dv)
  | .tup xs => some (.ok (.tup xs.reverse))
  | _ => none
def fBack (fa : FnE) : FnE := fun ρ => bnd (fa ρ) backD
theorem fe_back {a st : Expr} {fa fs : FnE} {p2 pos : Pos} (ha : FE X a fa) (hst : FE X st fs) (hv : ∀ ρ, fs ρ = some (.ok (.int (-1))) := by intro _; rfl) : FE X (.Subscript a (.Slice none none (some st) p2) pos) (fBack fa) := ⟨fun pins s σ H Q I ⟨ρ, E, o⟩ => by
  refine Subscript_ (thn (ha.h pins s σ H (fun x H1 => Envs X.K H1 σ ρ ∧ ∃ ds, Rep X.K H1 (.tup ds) x ∧ Out X H1 (some (.ok (.tup ds.reverse))) Q) I ⟨ρ, E, Out.bind o fun d v H1 e1 r1 o1 => ?_⟩) fun v s1 ⟨x, H1, I1, r1, E1, ds, rx, q⟩ => ?_)
  · cases d <;> try exact (show False from o1).elim
    exact ⟨E.mono e1, _, r1, o1⟩
  · refine wpAny_Slice ?_
    rw [evalPart_none]
    refine wpAny_pure ?_
    refine wpAny_pure ?_
    rw [evalPart_some]
    refine thn (hst.h pins s1 σ H1 (fun y H2 => y = .int (-1) ∧ Same H1 H2) I1 ⟨ρ, E1, by rw [hv]; exact fun v H' e r => ⟨r, e⟩⟩) fun u s3 ⟨y, H3, I3, r3, e3, e4⟩ => ?_
    subst e3
    obtain ⟨tk, rfl⟩ := r3
    obtain ⟨b, xs, rfl, h1, h2⟩ := (Rep.mono e4 _ _ rx).tupE
    cases r1
    have I4 : Inv X pins σ H3 { s3 with heap := s3.heap.push { cls := .type "slice", data := .fields #[.none, .none, .int (-1) tk] } } := I3.kept (t' := s3.toks) fun b ob q => Heap.get?_push_of_some _ q
    obtain ⟨its, r, ht, hz⟩ := I4.tuple (SqT.of h1)
    show wpAny (model X.prog X.w) X.A (subscriptTail a (.Slice none none (some st) p2) (.ref b) (.ref s3.heap.objs.size)) (EP X pins σ Q) X.xe _
    refine tail_any (ops := [.ref b, .ref s3.heap.objs.size]) ht.typeIs PyProof.Rows.slot_tuple_getitem.lookup (getItem_tuple_back ht (Heap.IsSliceOf.new ..) ?_ (by rw [← r.length]; exact hz)) (by with_unfolding_all rfl)
    have hp := I4.hok.fresh (Nat.le_refl _)
    refine ⟨.ref _, _, I4.laid (t' := s3.toks) (o := .tup xs.reverse) (fun b ob q => Heap.get?_push_of_some _ q) (Nat.le_refl _) ?_, rfl, q _ _ (e4.trans (same_new hp _)) ⟨_, _, rfl, upd_same, Reps.mono (same_new hp _) _ _ (Reps.reverse h2)⟩⟩
    exact ⟨by rw [List.length_reverse]; exact hz, _, Vals.reverse r, IsTup.new _ _⟩⟩
def listD : List Dv → Option (Rs Dv)
  | [.lst xs] => some (.ok (.lst xs))
  | [.tup xs] => some (.ok (.lst xs))
  | _ => none
theorem fe_list {p pos : Pos} {e : Expr} {es : List Expr} {ga : FnA} (hg : Gl X "list") (hm : X.mg "list" = none) (ha : FA X (e :: es) ga) (he : starEach (e :: es) X.env = (false, eval e X.env) :: starEach es X.env := by kernel_rfl) (hpl : (backTo pos (starEach es X.env)).any (·.1) = false := by kernel_rfl) : FE X (.Call (.Name "list" p) (e :: es) [] pos) (fB1 listD ga) :=
  fe_of (pe_callTy call_list_of hg hm (by decide +kernel) ha.h (by decide) (by decide) he hpl) fun σ H Q ρ E o => ⟨ρ, E, OutA.bind o fun ds vs H1 e1 rs o1 => by
    unfold listD at o1
    split at o1
    · rename_i xs
      obtain ⟨v, rfl, r⟩ := reps1 rs
      obtain ⟨a, ws, rfl, h1, h2⟩ := r.lstE
      exact ⟨a, ws, rfl, .inl (SqL.of h1), fun l hl => o1 _ _ (same_new hl _) ⟨l, ws, rfl, upd_same, Reps.mono (same_new hl _) _ _ h2⟩⟩
    · rename_i xs
      obtain ⟨v, rfl, r⟩ := reps1 rs
      obtain ⟨a, ws, rfl, h1, h2⟩ := r.tupE
      exact ⟨a, ws, rfl, .inr (SqT.of h1), fun l hl => o1 _ _ (same_new hl _) ⟨l, ws, rfl, upd_same, Reps.mono (same_new hl _) _ _ h2⟩⟩
    · exact o1.elim⟩
end
end FD
namespace FD
open PySem PySem.Spec PyProof.Rows L2
abbrev lobj (its : List Value) (n : Nat) : Obj := { cls := .type "list", data := .seq its.toArray n }
section
variable {X : Cx} {pins : List (Addr × Obj)} {σ : L2.St} {H : Hp} {s : Shared} {a : Addr} {xs : List V}
theorem Inv.untrack (I : Inv X pins σ (upd H a (.lst xs)) s) (ha : H a = none) (hex : X.ex = []) : ∃ its n, Vals xs its ∧ xs.length ≤ sizeLine ∧ (∀ o, X.s₀.heap.get? a = some o → X.H₀ a ≠ none) ∧ (∀ p ∈ X.pn ++ pins, p.1 ≠ a) ∧ Inv X (pins ++ [(a, lobj its n)]) σ H s := by
  obtain ⟨z, its, n, rv, hl, e⟩ := I.lstM (l := a) (xs := xs) upd_same
  have hb : ∀ b u, H b = some u → b ≠ a := fun b u q => ne_of_none q ha
  have low : ∀ b, upd H a (.lst xs) b = none → H b = none := fun b q => by
    by_cases hba : b = a
    · rw [hba]; exact ha
    · rw [upd_ne hba] at q; exact q
  have dn : ∀ b u, upd H a (.lst xs) b = some u → (∀ ys, u ≠ .lst ys) → H b = some u := fun b u q hu => by
    by_cases hba : b = a
    · rw [hba, upd_same] at q
      exact absurd (Option.some.inj q).symm (hu xs)
    · rw [upd_ne hba] at q; exact q
  have nfs : a ∉ X.fs := fun hm => by
    obtain ⟨_, o, ho, _⟩ := I.ok.funs.mem hm
    have := I.base.free a o ho (I.ok.frf a hm) (by rw [hex]; simp)
    rw [upd_same] at this
    cases this
  have npin : ∀ p ∈ X.pn ++ pins, p.1 ≠ a := fun p hp w => by
    have := (I.pin p hp).2.1
    rw [w, upd_same] at this
    cases this
  refine ⟨its, n, rv, z, fun o ho h0 => ?_, npin, ⟨I.ok, I.os, I.bare, ⟨I.base.keep, I.base.slot, fun b o q n hx => low b (I.base.free b o q n hx), I.base.there, fun b ys q => dn b _ (I.base.tups b ys q) (fun _ w => by cases w), fun b o u q => dn b _ (I.base.frzs b o u q) (fun _ w => by cases w), fun b ps q => ?_⟩, I.loc, I.cell, low _ I.free, fun x c q => low _ (I.freeC x c q), fun p hp => ?_, fun b u q => ?_, I.len⟩⟩
  · have := I.base.free a o ho h0 (by rw [hex]; simp)
    rw [upd_same] at this
    cases this
  · obtain ⟨more, q'⟩ := I.base.tbls b ps q
    exact ⟨more, dn b _ q' (fun _ w => by cases w)⟩
  · rcases List.mem_append.mp hp with h1 | h1
    · obtain ⟨q1, q2, q3⟩ := I.pin p (List.mem_append_left _ h1)
      exact ⟨q1, low _ q2, q3⟩
    · rcases List.mem_append.mp h1 with h1 | h1
      · obtain ⟨q1, q2, q3⟩ := I.pin p (List.mem_append_right _ h1)
        exact ⟨q1, low _ q2, q3⟩
      · simp only [List.mem_singleton] at h1
        subst h1
        refine ⟨e, ha, fun w => ?_, nfs, fun v w => by cases w⟩
        obtain ⟨m, ⟨o, es, ep, ho, hd, _⟩, _⟩ := I.loc
        have w' : a = X.env.locals := w
        rw [← w', e] at ho
        cases ho
        cases hd
  · have hq : upd H a (.lst xs) b = some u := by rw [upd_ne (hb b u q)]; exact q
    refine (I.hok b u hq).stay (fun _ _ _ w => w) (fun c w => dn c _ w (fun _ w => by cases w)) fun c ys w => dn c _ w (fun _ w => by cases w)
theorem Inv.retrack {its : List Value} {n : Nat} (I : Inv X (pins ++ [(a, lobj its n)]) σ H s) (rv : Vals xs its) (hz : xs.length ≤ sizeLine) (h0 : ∀ o, X.s₀.heap.get? a = some o → X.H₀ a ≠ none) (hp0 : ∀ p ∈ X.pn ++ pins, p.1 ≠ a) : H a = none ∧ Inv X pins σ (upd H a (.lst xs)) s := by
  obtain ⟨e, ha, nL, nf, nc⟩ := I.pin (a, lobj its n) (List.mem_append_right _ (List.mem_append_right _ (by simp)))
  have up : ∀ b u, H b = some u → upd H a (.lst xs) b = some u := fun b u q => by rw [upd_ne (ne_of_none q ha)]; exact q
  have lo : ∀ b, H b = none → b ≠ a → upd H a (.lst xs) b = none := fun b q h => by rw [upd_ne h]; exact q
  refine ⟨ha, ⟨I.ok, I.os, I.bare, ⟨I.base.keep, I.base.slot, fun b o q n hx => lo b (I.base.free b o q n hx) (fun w => h0 o (w ▸ q) (w ▸ n)), I.base.there, fun b ys q => up b _ (I.base.tups b ys q), fun b o u q => up b _ (I.base.frzs b o u q), fun b ps q => ?_⟩, I.loc, I.cell, lo _ I.free (Ne.symm nL), fun x c q => lo _ (I.freeC x c q) (fun w => ?_), fun p hp => ?_, fun b u q => ?_, I.len⟩⟩
  · obtain ⟨more, q'⟩ := I.base.tbls b ps q
    exact ⟨more, up b _ q'⟩
  · obtain ⟨v, o, ho, hd⟩ := I.cell x c q
    rw [w] at ho
    have e' : s.heap.get? a = some (lobj its n) := e
    rw [e'] at ho
    cases ho
    cases hd
  · obtain ⟨q1, q2, q3⟩ := I.pin p (by
      rcases List.mem_append.mp hp with h1 | h1
      · exact List.mem_append_left _ h1
      · exact List.mem_append_right _ (List.mem_append_left _ h1))
    exact ⟨q1, lo _ q2 (hp0 p hp), q3⟩
  · by_cases hb : b = a
    · subst hb
      rw [upd_same] at q
      cases q
      exact ⟨hz, its, n, rv, e⟩
    · rw [upd_ne hb] at q
      exact (I.hok b u q).stay (fun _ _ _ w => w) (fun c w => up c _ w) fun c ys w => up c _ w
end
def liftE (t : TE) : TE := fun σ Hf Q => ∃ H a xs, Hf = upd H a (.lst xs) ∧ H a = none ∧ t σ H fun v H' => H' a = none → Q v (upd H' a (.lst xs))
def liftT (t : TT) : TT := fun σ Hf Q => ∃ H a xs, Hf = upd H a (.lst xs) ∧ H a = none ∧ t σ H fun v H' => H' a = none → Q v (upd H' a (.lst xs))
def liftA (t : TA) : TA := fun σ Hf Q => ∃ H a xs, Hf = upd H a (.lst xs) ∧ H a = none ∧ t σ H fun v H' => H' a = none → Q v (upd H' a (.lst xs))
def liftI (t : TI) : TI := fun σ Hf Q => ∃ H a xs, Hf = upd H a (.lst xs) ∧ H a = none ∧ t σ H fun v H' => H' a = none → Q v (upd H' a (.lst xs))
section
variable {X : Cx} {e : Expr} {es : List Expr}
theorem pe_lift (hex : X.ex = []) {t : TE} (h : PE X e t) : PE X e (liftE t) := by
  intro pins s σ Hf Q I ⟨H, a, xs, e1, ha, q⟩
  subst e1
  obtain ⟨its, n, rv, hz, h0, hp, I'⟩ := Inv.untrack I ha hex
  refine thn (h _ s σ H _ I' q) fun u s' ⟨v, H', I2, r, q2⟩ => ?_
  obtain ⟨ha', I3⟩ := Inv.retrack I2 rv hz h0 hp
  exact ⟨v, _, I3, r, q2 ha'⟩
theorem pt_lift (hex : X.ex = []) {t : TT} (h : PT X e t) : PT X e (liftT t) := by
  intro pins s σ Hf Q I ⟨H, a, xs, e1, ha, q⟩
  subst e1
  obtain ⟨its, n, rv, hz, h0, hp, I'⟩ := Inv.untrack I ha hex
  refine thn (h _ s σ H _ I' q) fun u s' ⟨H', I2, q2⟩ => ?_
  obtain ⟨ha', I3⟩ := Inv.retrack I2 rv hz h0 hp
  exact ⟨_, I3, q2 ha'⟩
theorem pa_lift (hex : X.ex = []) {t : TA} (h : PA X es t) : PA X es (liftA t) := by
  intro pos pins s σ Hf Q I ⟨H, a, xs, e1, ha, q⟩
  subst e1
  obtain ⟨its, n, rv, hz, h0, hp, I'⟩ := Inv.untrack I ha hex
  refine thn (h pos _ s σ H _ I' q) fun u s' ⟨v, H', I2, r, q2⟩ => ?_
  obtain ⟨ha', I3⟩ := Inv.retrack I2 rv hz h0 hp
  exact ⟨v, _, I3, r, q2 ha'⟩
theorem pi_lift (hex : X.ex = []) {tg : Expr} {t : TI} (h : PI X tg e t) : PI X tg e (liftI t) := by
  intro pins s σ Hf R I ⟨H, a, xs, e1, ha, q⟩
  subst e1
  obtain ⟨its, n, rv, hz, h0, hp, I'⟩ := Inv.untrack I ha hex
  refine thn (h _ s σ H _ I' q) fun u s1 hs1 => thn hs1 fun itv s2 ⟨it, fp, tn, J, H', e2, I2, T, t0, fpo, q2⟩ => ?_
  obtain ⟨ha', I3⟩ := Inv.retrack I2 rv hz h0 hp
  refine ⟨it, fp, tn, J, _, e2, I3, T, t0, fun b hb => ?_, q2 ha'⟩
  obtain ⟨g0, g1, g2, g3, g4, g5⟩ := fpo b hb
  have hba : b ≠ a := fun w => g5 (a, lobj its n) (List.mem_append_right _ (List.mem_append_right _ (by simp))) w.symm
  refine ⟨by rw [upd_ne hba]; exact g0, g1, g2, g3, g4, fun p hp' => g5 p ?_⟩
  rcases List.mem_append.mp hp' with w | w
  · exact List.mem_append_left _ w
  · exact List.mem_append_right _ (List.mem_append_left _ w)
end
mutual
def imm : Dv → Bool
  | .non => true
  | .bl _ => true
  | .int _ => true
  | .str _ => true
  | .tup ds => imms ds
  | .lst _ => false
  | .scr _ => false
  | .exn _ => false
def imms : List Dv → Bool
  | [] => true
  | d :: ds => imm d && imms ds
end
section
variable {K : PySem.W.Frag} {H H' : Hp}
mutual
theorem Rep.tups (k : ∀ b ys, H b = some (.tup ys) → H' b = some (.tup ys)) : ∀ (d : Dv) (v : V), imm d = true → Rep K H d v → Rep K H' d v
  | .non, _, _, h => h
  | .bl _, _, _, h => h
  | .int _, _, _, h => h
  | .str _, _, _, h => h
  | .tup ds, v, i, h => by
    obtain ⟨a, xs, r, h, q⟩ := h.tupE
    exact ⟨a, xs, r, k _ _ h, Reps.tups k ds xs (by simpa [imm] using i) q⟩
  | .lst _, _, i, _ => by simp [imm] at i
  | .scr _, _, i, _ => by simp [imm] at i
  | .exn _, _, i, _ => by simp [imm] at i
theorem Reps.tups (k : ∀ b ys, H b = some (.tup ys) → H' b = some (.tup ys)) : ∀ (ds : List Dv) (vs : List V), imms ds = true → Reps K H ds vs → Reps K H' ds vs
  | [], _, _, h => h
  | d :: ds, vs, i, h => by
    obtain ⟨v, us, r, h, q⟩ : ∃ v us, vs = v :: us ∧ Rep K H d v ∧ Reps K H ds us := h
    have i' : imm d = true ∧ imms ds = true := by simpa [imms] using i
    exact ⟨v, us, r, Rep.tups k d v i'.1 h, Reps.tups k ds us i'.2 q⟩
end
end
end FD
namespace FD
open PySem PySem.Spec PyProof.Rows L2
inductive Fo where
  | nx (ρ : Ev) (ds : List Dv)
  | rt (d : Dv)
abbrev FnO2 := Ev → List Dv → Option Fo
def OutW (X : Cx) (i : Nat) (a : Addr) (H : Hp) (o : Option Fo) (D : Ends) : Prop := match o with
  | none => False
  | some (.rt d) => ∀ v H', Same H H' → Rep X.K H' d v → D.rt v H'
  | some (.nx ρ ds) => ∀ σ H' xs, Same H H' → H' a = none → σ[i]? = some (some (.ref a)) → Envs X.K H' σ ρ → Reps X.K H' ds xs → D.nx σ (upd H' a (.lst xs))
theorem OutW.mono {X : Cx} {i : Nat} {a : Addr} {H H' : Hp} {D : Ends} (e : Same H H') : ∀ {o : Option Fo}, OutW X i a H o D → OutW X i a H' o D
  | none, h => h
  | some (.rt _), h => fun v H1 e1 r => h v H1 (e.trans e1) r
  | some (.nx _ _), h => fun σ H1 xs e1 => h σ H1 xs (e.trans e1)
def tO (X : Cx) (i : Nat) (f : FnO2) : TS := fun D σ Hf => ∃ H a xs ρ ds, Hf = upd H a (.lst xs) ∧ H a = none ∧ σ[i]? = some (some (.ref a)) ∧ Envs X.K H σ ρ ∧ Reps X.K H ds xs ∧ OutW X i a H (f ρ ds) D
structure FO1 (X : Cx) (i : Nat) (st : Stmt) (f : FnO2) : Prop where
  h : PS X st (tO X i f)
structure FOs (X : Cx) (i : Nat) (st : List Stmt) (f : FnO2) : Prop where
  h : PSs X st (tO X i f)
def bndO {α : Type} (o : Option (Rs α)) (k : α → Option Fo) : Option Fo := match o with
  | some (.ok a) => k a
  | _ => none
def oNil : FnO2 := fun ρ ds => some (.nx ρ ds)
def oSeq (f g : FnO2) : FnO2 := fun ρ ds => match f ρ ds with
  | some (.nx ρ' ds') => g ρ' ds'
  | o => o
def oSet (j : Nat) (f : FnE) : FnO2 := fun ρ ds => bndO (f ρ) fun d => some (.nx (ρ.set j (some d)) ds)
def oIf (c : FnB) (f g : FnO2) : FnO2 := fun ρ ds => bndO (c ρ) fun k => if k then f ρ ds else g ρ ds
def oIfR (i : Nat) (c : FnB) (f g : FnO2) : FnO2 := fun ρ ds => bndO (c (ρ.set i (some (.lst ds)))) fun k => if k then f ρ ds else g ρ ds
def oRet (i : Nat) (f : FnE) : FnO2 := fun ρ ds => bndO (f (ρ.set i (some (.lst ds)))) fun d => some (.rt d)
def oApp (f : FnE) : FnO2 := fun ρ ds => if ds.length < 100000 then bndO (f ρ) fun d => some (.nx ρ (ds ++ [d])) else none
section
variable {X : Cx} {i : Nat} {st : Stmt} {sts : List Stmt} {f g : FnO2} {fe : FnE} {gb : FnB} {e c : Expr} {pos : Pos}
theorem resplit {H Hf : Hp} {a : Addr} {xs : List V} (ha : H a = none) (e : Same (upd H a (.lst xs)) Hf) : ∃ H', Hf = upd H' a (.lst xs) ∧ H' a = none ∧ Same H H' := by
  refine ⟨fun b => if b = a then none else Hf b, ?_, by simp, fun b u q => ?_⟩
  · funext b
    by_cases hb : b = a
    · subst hb
      rw [upd_same]
      exact e b _ upd_same
    · rw [upd_ne hb]
      simp [hb]
  · have hb : b ≠ a := ne_of_none q ha
    simp only [hb, if_false]
    exact e b u (by rw [upd_ne hb]; exact q)
theorem same_full {H : Hp} {a : Addr} {xs : List V} (ha : H a = none) : Same H (upd H a (.lst xs)) := same_new ha _
theorem envs_full {H : Hp} {a : Addr} {xs : List V} {σ : L2.St} {ρ : Ev} {ds : List Dv} (ha : H a = none) (hi : σ[i]? = some (some (.ref a))) (E : Envs X.K H σ ρ) (r : Reps X.K H ds xs) : Envs X.K (upd H a (.lst xs)) σ (ρ.set i (some (.lst ds))) := by
  have E' := E.mono (same_full (xs := xs) ha)
  refine ⟨by rw [List.length_set]; exact E'.len, fun j d hj => ?_⟩
  by_cases hij : i = j
  · subst hij
    by_cases hl : i < ρ.length
    · rw [List.getElem?_set_self hl] at hj
      cases hj
      exact ⟨.ref a, hi, a, xs, rfl, upd_same, Reps.mono (same_full ha) _ _ r⟩
    · rw [List.getElem?_eq_none (by rw [List.length_set]; omega)] at hj
      cases hj
  · rw [List.getElem?_set_ne hij] at hj
    exact E'.at' j d hj
theorem fos_nil : FOs X i [] oNil := ⟨fun pins s σ Hf D I ⟨H, a, xs, ρ, ds, e1, ha, hi, E, r, o⟩ => by
  subst e1
  exact pss_nil pins s σ _ D I (o σ H xs (.refl H) ha hi E r)⟩
theorem fos_cons (h1 : FO1 X i st f) (h2 : FOs X i sts g) : FOs X i (st :: sts) (oSeq f g) := ⟨fun pins s σ Hf D I ⟨H, a, xs, ρ, ds, e1, ha, hi, E, r, o⟩ => by
  refine pss_cons h1.h h2.h pins s σ Hf D I ⟨H, a, xs, ρ, ds, e1, ha, hi, E, r, ?_⟩
  unfold oSeq at o
  match hf : f ρ ds with
  | none => rw [hf] at o; exact o.elim
  | some (.rt d) => rw [hf] at o; exact o
  | some (.nx ρ' ds') => rw [hf] at o; exact fun σ' H' xs' e' ha' hi' E' r' => ⟨H', a, xs', ρ', ds', rfl, ha', hi', E', r', OutW.mono e' o⟩⟩
theorem fos_one (h1 : FO1 X i st f) : FOs X i [st] f := ⟨pss_one h1.h⟩
theorem fo_set (hex : X.ex = []) (j : Nat) (hij : i ≠ j) {x : Str} {pos' : Pos} (hN : X.N.Nodup) (hi : X.N[j]? = some x) (hx : Loc X.env.scope x) (he : FE X e fe) (hs : swapsWith e (some (.Name x pos')) pos.line X.env = pure false := by kernel_rfl) (hf : X.fn x = true ∨ X.env.scope.names.lookup x = some .local := by first | exact .inl rfl | exact .inr rfl | assumption) :
    FO1 X i (.Assign [.Name x pos'] e pos) (oSet j fe) := ⟨fun pins s σ Hf D I ⟨H, a, xs, ρ, ds, e1, ha, hia, E, r, o⟩ => by
  refine ps_set hN hi hx (pe_lift hex he.h) hs hf pins s σ Hf D I ⟨H, a, xs, e1, ha, ρ, E, ?_⟩
  unfold oSet at o
  match hfe : fe ρ with
  | none => rw [hfe] at o; exact o.elim
  | some (.exc _) => rw [hfe] at o; exact o.elim
  | some (.ok d) =>
    rw [hfe] at o
    exact fun v H' e' rd ha' => o _ H' xs e' ha' (by rw [List.getElem?_set_ne (Ne.symm hij)]; exact hia) ((E.mono e').set rd) (Reps.mono e' _ _ r)⟩
theorem fo_if (hex : X.ex = []) {as bs : List Stmt} (hc : FT X c gb) (ha : FOs X i as f) (hb : FOs X i bs g) : FO1 X i (.If c as bs pos) (oIf gb f g) := ⟨fun pins s σ Hf D I ⟨H, a, xs, ρ, ds, e1, ha', hia, E, r, o⟩ => by
  refine ps_if (pt_lift hex hc.h) ha.h hb.h pins s σ Hf D I ⟨H, a, xs, e1, ha', ρ, E, ?_⟩
  unfold oIf at o
  match hg : gb ρ with
  | none => rw [hg] at o; exact o.elim
  | some (.exc _) => rw [hg] at o; exact o.elim
  | some (.ok true) => rw [hg] at o; exact fun H' e' h' => iteT ⟨H', a, xs, ρ, ds, rfl, h', hia, E.mono e', Reps.mono e' _ _ r, OutW.mono e' o⟩
  | some (.ok false) => rw [hg] at o; exact fun H' e' h' => iteF ⟨H', a, xs, ρ, ds, rfl, h', hia, E.mono e', Reps.mono e' _ _ r, OutW.mono e' o⟩⟩
theorem fo_ifR {as bs : List Stmt} (hc : FT X c gb) (ha : FOs X i as f) (hb : FOs X i bs g) : FO1 X i (.If c as bs pos) (oIfR i gb f g) := ⟨fun pins s σ Hf D I ⟨H, a, xs, ρ, ds, e1, ha', hia, E, r, o⟩ => by
  subst e1
  refine ps_if hc.h ha.h hb.h pins s σ _ D I ⟨_, envs_full ha' hia E r, ?_⟩
  unfold oIfR at o
  match hg : gb (ρ.set i (some (.lst ds))) with
  | none => rw [hg] at o; exact o.elim
  | some (.exc _) => rw [hg] at o; exact o.elim
  | some (.ok true) =>
    rw [hg] at o
    intro H2 e2
    obtain ⟨H', q1, q2, q3⟩ := resplit ha' e2
    exact iteT ⟨H', a, xs, ρ, ds, q1, q2, hia, E.mono q3, Reps.mono q3 _ _ r, OutW.mono q3 o⟩
  | some (.ok false) =>
    rw [hg] at o
    intro H2 e2
    obtain ⟨H', q1, q2, q3⟩ := resplit ha' e2
    exact iteF ⟨H', a, xs, ρ, ds, q1, q2, hia, E.mono q3, Reps.mono q3 _ _ r, OutW.mono q3 o⟩⟩
theorem fo_ret (he : FE X e fe) : FO1 X i (.Return (some e) pos) (oRet i fe) := ⟨fun pins s σ Hf D I ⟨H, a, xs, ρ, ds, e1, ha', hia, E, r, o⟩ => by
  subst e1
  refine ps_ret he.h pins s σ _ D I ⟨_, envs_full ha' hia E r, ?_⟩
  unfold oRet at o
  match hg : fe (ρ.set i (some (.lst ds))) with
  | none => rw [hg] at o; exact o.elim
  | some (.exc _) => rw [hg] at o; exact o.elim
  | some (.ok d) => rw [hg] at o; exact fun v H2 e2 rd => o v H2 ((same_full ha').trans e2) rd⟩
theorem fo_app (hex : X.ex = []) {x : Str} {apos cpos : Pos} (hx : PE X (.Name x apos) (tVar i)) (he : FE X e fe)
    (hbase : attributeBase (.Name x apos) "append" X.env (eval (.Name x apos) X.env) = eval (.Name x apos) X.env := by kernel_rfl)
    (hfew : ((backTo cpos (starEach [e] X.env)).all (fun x => !x.1) && (backToKw cpos (keywordEach [] X.env)).all (fun x => x.1.isSome)
      && decide ([e].length + ([] : List Keyword).length + (if ([] : List Keyword).isEmpty then 0 else 1) < 30)) = true := by kernel_rfl)
    {ap : Pos} (hline : (ap.endLine == cpos.line) = true := by kernel_rfl) (hs : starEach [e] X.env = (false, eval e X.env) :: starEach [] X.env := by kernel_rfl) (hplain : (backTo cpos (starEach [] X.env)).any (·.1) = false := by kernel_rfl)
    (hsw : swapsWith (.Call (.Attribute (.Name x apos) "append" ap) [e] [] cpos) none pos.line X.env = pure false := by kernel_rfl) :
    FO1 X i (.Expr (.Call (.Attribute (.Name x apos) "append" ap) [e] [] cpos) pos) (oApp fe) := ⟨fun pins s σ Hf D I ⟨H, a, xs, ρ, ds, e1, ha', hia, E, r, o⟩ => by
  refine ps_expr (pe_bm PySem.F.plainAttrs_list PySem.F.slot_list_append PySem.F.type_list_append mt_append hx (pa_lift hex (fa_cons he fa_nil hs).h) hbase hfew hline hs hplain) hsw pins s σ Hf D I ?_
  unfold oApp at o
  split at o
  · rename_i hl
    match hfe : fe ρ with
    | none => rw [hfe] at o; exact o.elim
    | some (.exc _) => rw [hfe] at o; exact o.elim
    | some (.ok d) =>
      rw [hfe] at o
      refine ⟨.ref a, hia, .inl ⟨rfl, xs, SqL.of (by rw [e1]; exact upd_same)⟩, H, a, xs, e1, ha', ρ, E, ?_⟩
      show OutA X H (aCons fe aNil ρ) _
      rw [aCons_of hfe aNil_of]
      intro vs H' e' rs ha2
      obtain ⟨v, rfl, rv⟩ := reps1 rs
      have hz : xs.length < sizeLine := by
        have := r.length
        have h2 := le_line (n := xs.length + 1) (by omega)
        omega
      refine ⟨a, xs, v, rfl, rfl, upd_same, hz, ?_⟩
      rw [upd_upd]
      exact o σ H' (xs ++ [v]) e' ha2 hia (E.mono e') ((Reps.mono e' _ _ r).append ⟨v, [], rfl, rv, rfl⟩)
  · exact o.elim⟩
end
def fOwn (i : Nat) (g : FnA) (f : FnO2) : FnS := fun ρ => bndS (g ρ) fun ds => if ds.length ≤ 100000 then (match f (ρ.set i none) ds with
  | some (.nx ρ' ds') => some (.nx (ρ'.set i (some (.lst ds'))))
  | some (.rt d) => some (.rt d)
  | none => none) else none
section
variable {X : Cx} {i : Nat} {sts : List Stmt} {f : FnO2} {g : FnA} {es : List Expr} {pos lp : Pos}
theorem fss_own {x : Str} {pos' : Pos} (hN : X.N.Nodup) (hi : X.N[i]? = some x) (hx : Loc X.env.scope x) (hg : FA X es g) (hr : FOs X i sts f) (hs : swapsWith (.List es lp) (some (.Name x pos')) pos.line X.env = pure false := by kernel_rfl)
    (hf : X.fn x = true ∨ X.env.scope.names.lookup x = some .local := by first | exact .inl rfl | exact .inr rfl | assumption) : FSs X (.Assign [.Name x pos'] (.List es lp) pos :: sts) (fOwn i g f) := ⟨fun pins s σ H D I ⟨ρ, E, o⟩ => by
  refine pss_cons (ps_set (i := i) hN hi hx (pe_lst hg.h) hs hf) hr.h pins s σ H D I ⟨ρ, E, ?_⟩
  unfold fOwn at o
  match hgr : g ρ with
  | none => rw [hgr] at o; exact o.elim
  | some (.exc _) => rw [hgr] at o; exact o
  | some (.ok ds) =>
    rw [hgr] at o
    intro vs H1 e1 rs
    have o2 : OutS X H (if ds.length ≤ 100000 then (match f (ρ.set i none) ds with
      | some (.nx ρ' ds') => some (.nx (ρ'.set i (some (.lst ds'))))
      | some (.rt d) => some (.rt d)
      | none => none) else none) D := o
    by_cases hl : ds.length ≤ 100000
    · rw [if_pos hl] at o2
      refine ⟨by rw [rs.length]; exact le_line hl, fun p hp => ?_⟩
      have hil : i < σ.length := by rw [I.len]; exact (List.getElem?_eq_some_iff.mp hi).1
      refine ⟨H1, p, vs, ρ.set i none, ds, rfl, hp, List.getElem?_set_self hil, ?_, rs, ?_⟩
      · have E1 := (E.mono e1).fgt1 i
        refine ⟨by rw [List.length_set]; exact E1.len, fun j d hj => ?_⟩
        by_cases hij : i = j
        · subst hij
          by_cases hl2 : i < ρ.length
          · rw [List.getElem?_set_self hl2] at hj; cases hj
          · rw [List.getElem?_eq_none (by rw [List.length_set]; omega)] at hj; cases hj
        · obtain ⟨v, q1, q2⟩ := E1.at' j d hj
          exact ⟨v, by rw [List.getElem?_set_ne hij]; exact q1, q2⟩
      · match hfr : f (ρ.set i none) ds with
        | none => rw [hfr] at o2; exact o2.elim
        | some (.rt d) => rw [hfr] at o2; exact fun v H' e' r' => o2 v H' (e1.trans e') r'
        | some (.nx ρ' ds') =>
          rw [hfr] at o2
          exact fun σ' H' xs' e' ha' hi' E' r' => o2 σ' _ ((e1.trans e').trans (same_full ha')) (envs_full ha' hi' E' r')
    · rw [if_neg hl] at o2
      exact o2.elim⟩
end
end FD
namespace FD
open PySem PySem.Spec PyProof.Rows L2
def loopO (j : Nat) (js : List Nat) (body : FnO2) : List Dv → Ev → List Dv → Option Fo
  | [], ρ, xs => some (.nx (fgt js ρ) xs)
  | d :: ds, ρ, xs => match body ((fgt js ρ).set j (some d)) xs with
    | some (.nx ρ' xs') => loopO j js body ds ρ' xs'
    | o => o
def oFor (j : Nat) (js : List Nat) (src : FnA) (body : FnO2) : FnO2 := fun ρ xs => bndO (src ρ) fun ds => if imms ds = true then loopO j js body ds ρ xs else none
theorem imms_get : ∀ {ds : List Dv} {n : Nat} {d : Dv}, imms ds = true → ds[n]? = some d → imm d = true
  | [], _, _, _, h => by simp at h
  | e :: ds, 0, d, i, h => by
    have i' : imm e = true ∧ imms ds = true := by simpa [imms] using i
    cases (show some e = some d from h)
    exact i'.1
  | e :: ds, n + 1, d, i, h => by
    have i' : imm e = true ∧ imms ds = true := by simpa [imms] using i
    exact imms_get i'.2 (show ds[n]? = some d from h)
theorem rep_down {K : PySem.W.Frag} {H : Hp} {a : Addr} {xs : List V} {d : Dv} {v : V} (i : imm d = true) (r : Rep K (upd H a (.lst xs)) d v) : Rep K H d v :=
  Rep.tups (fun b ys q => by
    by_cases hb : b = a
    · rw [hb, upd_same] at q; cases q
    · rw [upd_ne hb] at q; exact q) d v i r
theorem fo_for {X : Cx} {i : Nat} {tg iter : Expr} {body : List Stmt} {pos : Pos} {src : FnA} {fb : FnO2} (hex : X.ex = []) (j : Nat) (js : List Nat) (hij : i ≠ j) (hp : PassesOwn (model X.prog X.w) X.A X.env X.xe) (hc : X.calm = true) (hi : FI X tg iter src) (hg : PG X tg (gName j)) (hb : FOs X i body fb)
    (hs : ∀ x, foldedSetIterable iter X.env x = pure x := by intro _; kernel_rfl) : FO1 X i (.For tg iter body [] pos) (oFor j js src fb) := ⟨fun pins s σ Hf D I ⟨H, a, xs, ρ, ds, e1, ha, hia, E, r, o⟩ => by
  refine ps_for hp hc (pi_lift hex hi.h) hg hb.h hs pins s σ Hf D I ⟨H, a, xs, e1, ha, ρ, E, ?_⟩
  unfold oFor at o
  match hf : src ρ with
  | none => rw [hf] at o; exact o.elim
  | some (.exc _) => rw [hf] at o; exact o.elim
  | some (.ok us) =>
    rw [hf] at o
    have o0 : OutW X i a H (if imms us = true then loopO j js fb us ρ ds else none) D := o
    by_cases him : imms us = true
    · rw [if_pos him] at o0
      intro J H1 e1 wk ha1
      have o1 := OutW.mono e1 o0
      refine ⟨fun n m σ' Hf' => m = us.length - n ∧ n ≤ us.length ∧ ∃ H' xs' ρ' ds', Hf' = upd H' a (.lst xs') ∧ H' a = none ∧ Same H1 H' ∧ σ'[i]? = some (some (.ref a)) ∧ Envs X.K H' σ' ρ' ∧ Reps X.K H' ds' xs' ∧ OutW X i a H' (loopO j js fb (us.drop n) ρ' ds') D,
        ⟨us.length, by simp, Nat.zero_le _, H1, xs, ρ, ds, rfl, ha1, .refl H1, hia, E.mono e1, Reps.mono e1 _ _ r, by simpa using o1⟩, ?_⟩
      rintro n m σ' Hf' ⟨rfl, hn, H', xs', ρ', ds', rfl, ha', e2, hia', E', r', o'⟩
      have e2f : Same H1 (upd H' a (.lst xs')) := e2.trans (same_full ha')
      by_cases hlt : n < us.length
      · refine .inr ⟨wk.go n _ e2f hlt, fun σ2 Hf2 => ∃ H2 xs2 ρ2 ds2, Hf2 = upd H2 a (.lst xs2) ∧ H2 a = none ∧ Same H1 H2 ∧ σ2[i]? = some (some (.ref a)) ∧ Envs X.K H2 σ2 ρ2 ∧ Reps X.K H2 ds2 xs2 ∧ OutW X i a H2 (loopO j js fb (us.drop (n + 1)) ρ2 ds2) D,
          fun σ2 Hf2 q => ⟨us.length - (n + 1), by omega, rfl, hlt, q⟩, fun x H2 y => ?_⟩
        obtain ⟨rfl, d, hd, rd⟩ := wk.yld n _ x H2 e2f hlt y
        have rd' := rep_down (imms_get him hd) rd
        rw [drop_cons hd] at o'
        show tO X i fb _ _ _
        refine ⟨H', a, xs', (fgt js ρ').set j (some d), ds', rfl, ha', by rw [List.getElem?_set_ne (Ne.symm hij)]; exact hia', (Envs.fgt js E').set rd', r', ?_⟩
        unfold loopO at o'
        match hb' : fb ((fgt js ρ').set j (some d)) ds' with
        | none => rw [hb'] at o'; exact o'
        | some (.rt r) => rw [hb'] at o'; exact o'
        | some (.nx ρ2 ds2) => rw [hb'] at o'; exact fun σ2 H3 xs3 e3 h3 hi3 E3 r3 => ⟨H3, xs3, ρ2, ds2, rfl, h3, e2.trans e3, hi3, E3, r3, OutW.mono e3 o'⟩
      · have hn' : n = us.length := by omega
        subst hn'
        rw [List.drop_length] at o'
        exact .inl ⟨wk.stop _ e2f, o' σ' H' xs' (.refl H') ha' hia' (Envs.fgt js E') r'⟩
    · rw [if_neg him] at o0
      exact o0.elim⟩
end FD
namespace FD
open PySem PySem.Spec PyProof.Rows L2 PySem.W
def tbInt : Dv → Bool
  | .bl _ => true
  | .int _ => true
  | _ => false
theorem kit_int (K : PySem.W.Frag) (d : Dv) : PySem.W.kitOne K (.type (tyD d)) (.type "int") = some (tbInt d) := by cases d <;> kernel_rfl
theorem bt_int : bootBuiltins (Str.ofString "int") = some (.type "int") := by kernel_rfl
def strD : List Dv → Option (Rs Dv)
  | [.int i] => if i.natAbs.log2 < 1920 then some (.ok (.str (toString i))) else none
  | _ => none
section
variable {X : Cx} {p pos : Pos} {e : Expr} {es : List Expr} {ga : FnA}
theorem fe_strI (hg : Gl X "str") (hm : X.mg "str" = none) (ha : FA X (e :: es) ga) (he : starEach (e :: es) X.env = (false, eval e X.env) :: starEach es X.env := by kernel_rfl) (hpl : (backTo pos (starEach es X.env)).any (·.1) = false := by kernel_rfl) : FE X (.Call (.Name "str" p) (e :: es) [] pos) (fB1 strD ga) :=
  fe_of (pe_callTy call_str_int hg hm (by decide +kernel) ha.h (by decide) (by decide) he hpl) fun σ H Q ρ E o => ⟨ρ, E, OutA.bind o fun ds vs H1 e1 rs o1 => by
    unfold strD at o1
    split at o1
    · rename_i i
      split at o1
      · rename_i hz
        obtain ⟨v, rfl, r⟩ := reps1 rs
        cases (show v = .int i from r)
        exact ⟨i, rfl, hz, o1 _ H1 (.refl H1) rfl⟩
      · exact o1.elim
    · exact o1.elim⟩
end
def leX : Dv → Dv → Option (Rs Dv)
  | .int i, .int j => some (.ok (.bl (decide (i ≤ j))))
  | .str x, .str y => some (.ok (.bl (!decide (y.cps.toList < x.cps.toList))))
  | _, _ => none
def rLeX : R2 := fun x y H Q => rI0 (fun i j => .bl (decide (i ≤ j))) x y H Q ∨ ∃ i j, x = .str i ∧ y = .str j ∧ Q (.bl (!decide (j.cps.toList < i.cps.toList))) H
section
variable {X : Cx}
theorem op_le_str : OpR X (compareOp .LtE) (fun x y H Q => ∃ i j, x = .str i ∧ y = .str j ∧ Q (.bl (!decide (j.cps.toList < i.cps.toList))) H) := by
  intro pins s σ H x y v u Q I rx ry h
  obtain ⟨i, j, rfl, rfl, q⟩ := h
  obtain ⟨t, rfl⟩ := rx
  obtain ⟨t', rfl⟩ := ry
  exact PySem.P.le_str ⟨.bl _, H, I, rfl, q⟩
theorem o_leX : OpR X (compareOp .LtE) rLeX := op_le.or op_le_str
theorem g_leX : GOp X rLeX leX := by
  intro dx dy x y H Q rx ry o
  cases dx <;> cases dy <;> try exact (show False from o).elim
  · rename_i i j
    exact .inl ⟨i, j, rx, ry, o _ H (.refl H) rfl⟩
  · rename_i i j
    exact .inr ⟨i, j, rx, ry, o _ H (.refl H) rfl⟩
end
structure XAllS (K : PySem.W.Frag) (S : List Nat) (cls : Nat → Addr) (CJ : Addr) : Prop where
  at_ : ∀ c ∈ S, nsIn K mainGlobals (xnm c) = some (some (.ref (cls c))) ∧ excIn K (cls c) bmV "ValueError.__new__" = true ∧ XI K (cls c) ∧ mroIn K (cls c) (.ref CJ) = some true ∧ mroIn K (cls c) (.ref (cls c)) = some true ∧ kitOne K (.ref (cls c)) (.type "ValueError") = some true ∧ ∀ d ∈ S, kitOne K (.ref (cls c)) (.ref (cls d)) = some (c == d)
  exJ : excIn K CJ bmV "ValueError.__new__" = true
section
variable {K : PySem.W.Frag} {S : List Nat} {cls : Nat → Addr} {CJ : Addr} (x : XAllS K S cls CJ)
include x
theorem XAllS.xc (c : Nat) (h : c ∈ S) : XC K c (cls c) := ⟨(x.at_ c h).1, (x.at_ c h).2.1⟩
theorem XAllS.same {c : Nat} {C : Addr} (h : c ∈ S) (q : nsIn K mainGlobals (xnm c) = some (some (.ref C))) : C = cls c := by
  have z := (x.at_ c h).1
  rw [q] at z
  cases z
  rfl
theorem XAllS.xtO (d : Nat) (hd : d ∈ S) : XT K (fun c => if S.contains c then some (c == d) else none) (.ref (cls d)) := fun c b hb C q => by
  dsimp only at hb
  split at hb
  · rename_i h
    have h' : c ∈ S := by simpa using h
    cases hb
    rw [x.same h' q]
    exact ⟨(x.at_ c h').2.2.1, (x.at_ c h').2.2.2.2.2.2 d hd⟩
  · cases hb
theorem XAllS.xtV : XT K (fun c => if S.contains c then some true else none) (.type "ValueError") := fun c b hb C q => by
  dsimp only at hb
  split at hb
  · rename_i h
    have h' : c ∈ S := by simpa using h
    cases hb
    rw [x.same h' q]
    exact ⟨(x.at_ c h').2.2.1, (x.at_ c h').2.2.2.2.2.1⟩
  · cases hb
end
section
variable {X : Cx} {ex hx : Expr} {f g : FnE} {J : Str} {CJ : Addr} {np rp rp2 hpos pos : Pos}
end
end FD
namespace ST
open PySem PySem.SetTable
def stp (m i : Nat) : Nat := (i * 5 + 1) % (m + 1)
def it (m : Nat) : Nat → Nat → Nat
  | 0, i => i
  | k + 1, i => it m k (stp m i)
def cycB (m : Nat) : Bool := (List.range (m + 1)).all fun i => (List.range (m + 1)).all fun j => (List.range (m + 1)).any fun k => it m k i == j
theorem cyc7 : cycB 7 = true := by decide +kernel
theorem cyc31 : cycB 31 = true := by decide +kernel
theorem cyc_of {m : Nat} (h : cycB m = true) {i j : Nat} (hi : i ≤ m) (hj : j ≤ m) : ∃ k, k ≤ m ∧ it m k i = j := by
  unfold cycB at h
  have h1 := List.all_eq_true.mp h i (List.mem_range.mpr (by omega))
  have h2 := List.all_eq_true.mp h1 j (List.mem_range.mpr (by omega))
  obtain ⟨k, hk, e⟩ := List.any_eq_true.mp h2
  exact ⟨k, by have := List.mem_range.mp hk; omega, by simpa using e⟩
def lp (m : Nat) : Nat → Nat × Nat → Nat × Nat
  | 0, x => x
  | r + 1, x => lp m r (leap m x.1 x.2)
theorem lp_add (m : Nat) : ∀ (a b : Nat) (x : Nat × Nat), lp m (a + b) x = lp m b (lp m a x)
  | 0, b, x => by rw [Nat.zero_add]; rfl
  | a + 1, b, x => by
    rw [Nat.succ_add]
    show lp m (a + b) (leap m x.1 x.2) = lp m b (lp m a (leap m x.1 x.2))
    exact lp_add m a b _
theorem lp_le (m : Nat) : ∀ (r : Nat) (x : Nat × Nat), x.1 ≤ m → (lp m r x).1 ≤ m
  | 0, x, h => h
  | r + 1, x, h => lp_le m r _ (by
    show (x.1 * 5 + 1 + x.2 / 32) % (m + 1) ≤ m
    exact Nat.le_of_lt_succ (Nat.mod_lt _ (Nat.succ_pos m)))
theorem lp_pt (m : Nat) : ∀ (r : Nat) (x : Nat × Nat), (lp m r x).2 = x.2 / 32 ^ r
  | 0, x => by simp [lp]
  | r + 1, x => by
    show (lp m r (leap m x.1 x.2)).2 = _
    rw [lp_pt m r]
    show x.2 / 32 / 32 ^ r = _
    rw [Nat.div_div_eq_div_mul, Nat.pow_succ, Nat.mul_comm]
theorem lp_zero (m : Nat) : ∀ (r : Nat) (i : Nat), (lp m r (i, 0)).1 = it m r i
  | 0, i => rfl
  | r + 1, i => by
    show (lp m r (leap m i 0)).1 = it m r (stp m i)
    have e : leap m i 0 = (stp m i, 0) := by unfold leap stp; simp
    rw [e]
    exact lp_zero m r _
theorem lp_hits {m : Nat} (c : cycB m = true) {i pt j : Nat} (hi : i ≤ m) (hp : pt < 2 ^ 64) (hj : j ≤ m) : ∃ r, r ≤ 13 + m ∧ (lp m r (i, pt)).1 = j := by
  have h0 : (lp m 13 (i, pt)).2 = 0 := by
    rw [lp_pt]
    exact Nat.div_eq_of_lt (by show pt < 32 ^ 13; have : (32 : Nat) ^ 13 = 2 ^ 65 := by decide
                               omega)
  obtain ⟨k, hk, e⟩ := cyc_of c (lp_le m 13 (i, pt) hi) hj
  refine ⟨13 + k, by omega, ?_⟩
  rw [lp_add]
  have e2 : lp m 13 (i, pt) = ((lp m 13 (i, pt)).1, 0) := by rw [← h0]
  rw [e2, lp_zero]
  exact e
def advN (t : SetTable) : Nat → Probe → Probe
  | 0, p => p
  | n + 1, p => advN t n (t.advance p)
theorem advN_add (t : SetTable) : ∀ (a b : Nat) (p : Probe), advN t (a + b) p = advN t b (advN t a p)
  | 0, b, p => by rw [Nat.zero_add]; rfl
  | a + 1, b, p => by
    rw [Nat.succ_add]
    exact advN_add t a b _
structure Vp (t : SetTable) (p : Probe) : Prop where
  i : p.i ≤ t.mask
  pt : p.perturb < 2 ^ 64
  more : p.more ≤ 9
  dm : p.dummy = none
theorem runEnd_le (m i : Nat) : runEnd m i - i ≤ 9 := by unfold runEnd; split <;> omega
def leapSt (t : SetTable) (p : Probe) : Probe := { p with j := (leap t.mask p.i p.perturb).1, more := runEnd t.mask (leap t.mask p.i p.perturb).1 - (leap t.mask p.i p.perturb).1, i := (leap t.mask p.i p.perturb).1, perturb := (leap t.mask p.i p.perturb).2 }
theorem adv_zero (t : SetTable) (p : Probe) (h : p.more = 0) : t.advance p = leapSt t p := by
  unfold SetTable.advance leapSt
  rw [if_neg (by omega)]
theorem adv_pos (t : SetTable) (p : Probe) (h : 0 < p.more) : t.advance p = { p with j := p.j + 1, more := p.more - 1 } := by
  unfold SetTable.advance
  rw [if_pos h]
theorem to_leap (t : SetTable) : ∀ (k : Nat) (p : Probe), p.more = k → advN t (k + 1) p = leapSt t p
  | 0, p, h => adv_zero t p h
  | k + 1, p, h => by
    show advN t (k + 1) (t.advance p) = _
    rw [adv_pos t p (by omega), to_leap t k _ (by show p.more - 1 = k; omega)]
    rfl
theorem leap_lt (m i pt : Nat) (h : pt < 2 ^ 64) : (leap m i pt).2 < 2 ^ 64 := Nat.lt_of_le_of_lt (Nat.div_le_self _ _) h
theorem Vp.leap {t : SetTable} {p : Probe} (v : Vp t p) : Vp t (leapSt t p) := ⟨by
    show (p.i * 5 + 1 + p.perturb / 32) % (t.mask + 1) ≤ t.mask
    exact Nat.le_of_lt_succ (Nat.mod_lt _ (Nat.succ_pos t.mask)), (show (SetTable.leap t.mask p.i p.perturb).2 < 2 ^ 64 from leap_lt _ _ _ v.pt), (show runEnd t.mask (SetTable.leap t.mask p.i p.perturb).1 - (SetTable.leap t.mask p.i p.perturb).1 ≤ 9 from runEnd_le _ _), v.dm⟩
theorem Vp.adv {t : SetTable} {p : Probe} (v : Vp t p) : Vp t (t.advance p) := by
  by_cases h : 0 < p.more
  · rw [adv_pos t p h]; exact ⟨v.i, v.pt, by show p.more - 1 ≤ 9; have := v.more; omega, v.dm⟩
  · rw [adv_zero t p (by omega)]; exact v.leap
theorem Vp.advN {t : SetTable} : ∀ (n : Nat) {p : Probe}, Vp t p → Vp t (advN t n p)
  | 0, p, v => v
  | n + 1, p, v => Vp.advN n v.adv
theorem to_leaps (t : SetTable) : ∀ (r : Nat) (p : Probe), Vp t p → ∃ n, n ≤ 10 * r ∧ (advN t n p).i = (lp t.mask r (p.i, p.perturb)).1 ∧ (r ≠ 0 → (advN t n p).j = (advN t n p).i)
  | 0, p, v => ⟨0, by omega, rfl, fun h => absurd rfl h⟩
  | r + 1, p, v => by
    obtain ⟨n, h1, h2, h3⟩ := to_leaps t r (leapSt t p) v.leap
    refine ⟨p.more + 1 + n, by have := v.more; omega, ?_, fun _ => ?_⟩
    · rw [advN_add, to_leap t p.more p rfl, h2]; rfl
    · rw [advN_add, to_leap t p.more p rfl]
      by_cases hr : r = 0
      · subst hr
        have hn : n = 0 := by omega
        subst hn
        rfl
      · exact h3 hr
structure Tb (t : SetTable) (n : Nat) : Prop where
  size : t.place.size = n
  dm : t.dummies = #[]
  cyc : cycB t.mask = true
  room : n ≤ t.mask
theorem has_nil (j : Nat) : has #[] j = false := by unfold has; simp
theorem slot_cases {t : SetTable} {n : Nat} (T : Tb t n) (j : Nat) : t.slot j = .empty ∨ ∃ i, t.slot j = .live i ∧ t.place[i]? = some j := by
  unfold SetTable.slot
  dsimp only
  split
  · rename_i h
    exact .inr ⟨_, rfl, by simpa using h⟩
  · rw [T.dm, has_nil]
    exact .inl rfl
theorem missing : ∀ (m : Nat) (l : List Nat), l.length ≤ m → ∃ j, j ≤ m ∧ j ∉ l
  | 0, l, h => ⟨0, Nat.le_refl _, by
    have : l = [] := List.length_eq_zero_iff.mp (by omega)
    simp [this]⟩
  | m + 1, l, h => by
    by_cases hm : (m + 1) ∈ l
    · obtain ⟨j, hj, hn⟩ := missing m (l.erase (m + 1)) (by rw [List.length_erase_of_mem hm]; omega)
      refine ⟨j, by omega, fun hl => hn ?_⟩
      exact (List.mem_erase_of_ne (by omega)).mpr hl
    · exact ⟨m + 1, Nat.le_refl _, hm⟩
theorem empty_ex {t : SetTable} {n : Nat} (T : Tb t n) : ∃ j, j ≤ t.mask ∧ t.slot j = .empty := by
  obtain ⟨j, hj, hn⟩ := missing t.mask t.place.toList (by simp [T.size, T.room])
  refine ⟨j, hj, ?_⟩
  rcases slot_cases T j with h | ⟨i, h, e⟩
  · exact h
  · exact absurd (Array.mem_toList_iff.mpr (Array.mem_of_getElem? e)) hn
theorem reach {t : SetTable} {n : Nat} (T : Tb t n) {p : Probe} (v : Vp t p) : ∃ N, N < 10 * turns t.mask ∧ t.slot (advN t N p).j = .empty := by
  obtain ⟨j, hj, he⟩ := empty_ex T
  obtain ⟨r, hr, e⟩ := lp_hits T.cyc (lp_le t.mask 1 (p.i, p.perturb) v.i) (by
    show (leap t.mask p.i p.perturb).2 < 2 ^ 64
    exact leap_lt _ _ _ v.pt) hj (pt := (lp t.mask 1 (p.i, p.perturb)).2)
  obtain ⟨N, h1, h2, h3⟩ := to_leaps t (1 + r) p v
  refine ⟨N, by unfold turns; omega, ?_⟩
  rw [h3 (by omega), h2, lp_add]
  rw [show lp t.mask 1 (p.i, p.perturb) = ((lp t.mask 1 (p.i, p.perturb)).1, (lp t.mask 1 (p.i, p.perturb)).2) from rfl, e]
  exact he
theorem first {P : Nat → Prop} [DecidablePred P] : ∀ (b : Nat), (∃ n, n < b ∧ P n) → ∃ n, n < b ∧ P n ∧ ∀ k, k < n → ¬ P k
  | 0, ⟨n, h, _⟩ => absurd h (Nat.not_lt_zero _)
  | b + 1, ⟨n, h, hp⟩ => by
    by_cases q : ∃ n, n < b ∧ P n
    · obtain ⟨n, h1, h2, h3⟩ := first b q
      exact ⟨n, by omega, h2, h3⟩
    · have hn : n = b := by
        have : ¬ n < b := fun z => q ⟨n, z, hp⟩
        omega
      subst hn
      exact ⟨n, by omega, hp, fun k hk z => q ⟨k, hk, z⟩⟩
theorem reach1 {t : SetTable} {n : Nat} (T : Tb t n) {p : Probe} (v : Vp t p) : ∃ N, N < 10 * turns t.mask ∧ t.slot (advN t N p).j = .empty ∧ ∀ k, k < N → t.slot (advN t k p).j ≠ .empty :=
  first (P := fun n => t.slot (advN t n p).j = .empty) _ (reach T v)
theorem go_met {t : SetTable} {n : Nat} (T : Tb t n) (hashAt : Nat → Int) (h : Int) : ∀ (N fuel : Nat) (p : Probe), Vp t p → N < fuel → t.slot (advN t N p).j = .empty → (∀ k, k < N → t.slot (advN t k p).j ≠ .empty) →
    probe.go t hashAt h fuel p = some (.empty (advN t N p).j none) ∨ ∃ m i, m < N ∧ t.slot (advN t m p).j = .live i ∧ t.place[i]? = some (advN t m p).j ∧ hashAt i = h ∧ probe.go t hashAt h fuel p = some (.candidate (advN t m p).j i (advN t (m + 1) p))
  | N, 0, p, v, hf, _, _ => absurd hf (Nat.not_lt_zero _)
  | 0, fuel + 1, p, v, hf, he, _ => by
    refine .inl ?_
    unfold probe.go
    rw [show t.slot p.j = .empty from he]
    show some (Met.empty p.j p.dummy) = _
    rw [v.dm]
    rfl
  | N + 1, fuel + 1, p, v, hf, he, hn => by
    rcases slot_cases T p.j with h0 | ⟨i, h1, h2⟩
    · exact absurd h0 (hn 0 (by omega))
    · by_cases hh : hashAt i = h
      · refine .inr ⟨0, i, by omega, h1, h2, hh, ?_⟩
        unfold probe.go
        rw [h1]
        dsimp only
        rw [if_pos (by simpa using hh)]
        rfl
      · have hg : probe.go t hashAt h (fuel + 1) p = probe.go t hashAt h fuel (t.advance p) := by
          conv => lhs; unfold probe.go
          rw [h1]
          dsimp only
          rw [if_neg (by simpa using hh)]
        rcases go_met T hashAt h N fuel (t.advance p) v.adv (by omega) he (fun k hk => hn (k + 1) (by omega)) with q | ⟨m, i', q1, q2, q3, q4, q5⟩
        · exact .inl (by rw [hg, q]; rfl)
        · exact .inr ⟨m + 1, i', by omega, q2, q3, q4, by rw [hg, q5]; rfl⟩
theorem start_v {t : SetTable} (h : Int) : Vp t (t.probeStart h) := ⟨by
    show bits h % (t.mask + 1) ≤ t.mask
    exact Nat.le_of_lt_succ (Nat.mod_lt _ (Nat.succ_pos t.mask)), by
    show bits h < 2 ^ 64
    unfold bits
    have h1 := Int.emod_nonneg h (show (2 ^ 64 : Int) ≠ 0 by decide)
    have h2 := Int.emod_lt_of_pos h (show (0 : Int) < 2 ^ 64 by decide)
    omega, runEnd_le _ _, rfl⟩
end ST
namespace ST
open PySem PySem.SetTable
theorem free_some {m : Nat} {owner : Array (Option Nat)} : ∀ (fuel i pt : Nat), i ≤ m → (∃ r, r < fuel ∧ (owner.getD (lp m r (i, pt)).1 (some 0)).isNone = true) → ∃ j, layClean.free m owner fuel i pt = some j ∧ (owner.getD j (some 0)).isNone = true
  | 0, i, pt, _, ⟨r, h, _⟩ => absurd h (Nat.not_lt_zero _)
  | fuel + 1, i, pt, hi, ⟨r, h, e⟩ => by
    unfold layClean.free
    split
    · rename_i k hk
      exact ⟨i + k, rfl, by simpa using List.find?_some hk⟩
    · rename_i hk
      cases r with
      | zero =>
        have hm : 0 ∈ List.range (runEnd m i + 1 - i) := List.mem_range.mpr (by unfold runEnd; split <;> omega)
        have := List.find?_eq_none.mp hk 0 hm
        exact absurd (show (owner.getD (i + 0) (some 0)).isNone = true from e) this
      | succ r =>
        exact free_some fuel _ _ (by
          show (i * 5 + 1 + pt / 32) % (m + 1) ≤ m
          exact Nat.le_of_lt_succ (Nat.mod_lt _ (Nat.succ_pos m))) ⟨r, by omega, e⟩
theorem fm_set : ∀ (l : List (Option Nat)) (j k : Nat), l[j]? = some none → ((l.set j (some k)).filterMap id).Perm (k :: l.filterMap id)
  | [], j, k, h => by simp at h
  | x :: l, 0, k, h => by
    have : x = none := by simpa using h
    subst this
    simp
  | x :: l, j + 1, k, h => by
    have ih := fm_set l j k (by simpa using h)
    cases x with
    | none => simpa using ih
    | some y =>
      show List.Perm (y :: (l.set j (some k)).filterMap id) (k :: y :: l.filterMap id)
      exact (ih.cons y).trans (List.Perm.swap ..)
theorem fm_none : ∀ (l : List (Option Nat)), (l.filterMap id).length < l.length → ∃ j, j < l.length ∧ l[j]? = some none
  | [], h => by simp at h
  | none :: l, h => ⟨0, by simp, rfl⟩
  | some y :: l, h => by
    obtain ⟨j, h1, h2⟩ := fm_none l (by simpa using h)
    exact ⟨j + 1, by simpa using h1, by simpa using h2⟩
def stepL (m : Nat) (acc : Option (Array (Option Nat) × Nat)) (h : Int) : Option (Array (Option Nat) × Nat) := do
  let (owner, k) ← acc
  let j ← layClean.free m owner (turns m) (bits h % (m + 1)) (bits h)
  pure (owner.setIfInBounds j (some k), k + 1)
theorem bits_lt (h : Int) : bits h < 2 ^ 64 := by
  unfold bits
  have h1 := Int.emod_nonneg h (show (2 ^ 64 : Int) ≠ 0 by decide)
  have h2 := Int.emod_lt_of_pos h (show (0 : Int) < 2 ^ 64 by decide)
  omega
theorem getD_none {owner : Array (Option Nat)} {j : Nat} (h : (owner.getD j (some 0)).isNone = true) : j < owner.size ∧ owner.toList[j]? = some none := by
  rw [Array.getD_eq_getD_getElem?] at h
  cases q : owner[j]? with
  | none => rw [q] at h; simp at h
  | some x =>
    rw [q] at h
    have hx : x = none := by simpa using h
    subst hx
    refine ⟨(Array.getElem?_eq_some_iff.mp q).1, by rw [Array.getElem?_toList]; exact q⟩
theorem fold_ok {m : Nat} (c : cycB m = true) : ∀ (hs : List Int) (owner : Array (Option Nat)) (k : Nat), owner.size = m + 1 → (owner.toList.filterMap id).Perm (List.range k) → k + hs.length ≤ m →
    ∃ o2, hs.foldl (stepL m) (some (owner, k)) = some (o2, k + hs.length) ∧ o2.size = m + 1 ∧ (o2.toList.filterMap id).Perm (List.range (k + hs.length))
  | [], owner, k, h1, h2, h3 => ⟨owner, rfl, h1, h2⟩
  | h :: hs, owner, k, h1, h2, h3 => by
    have hk : k + (hs.length + 1) ≤ m := by simpa using h3
    obtain ⟨j0, a1, a2⟩ := fm_none owner.toList (by rw [h2.length_eq, List.length_range]; simp only [Array.length_toList, h1]; omega)
    have hj0 : j0 ≤ m := by simp only [Array.length_toList, h1] at a1; omega
    obtain ⟨r, b1, b2⟩ := lp_hits c (i := bits h % (m + 1)) (pt := bits h) (Nat.le_of_lt_succ (Nat.mod_lt _ (Nat.succ_pos m))) (bits_lt h) hj0
    obtain ⟨j, f1, f2⟩ := free_some (m := m) (owner := owner) (turns m) (bits h % (m + 1)) (bits h) (Nat.le_of_lt_succ (Nat.mod_lt _ (Nat.succ_pos m))) ⟨r, by unfold turns; omega, by
      rw [b2, Array.getD_eq_getD_getElem?]
      rw [Array.getElem?_toList] at a2
      rw [a2]; rfl⟩
    obtain ⟨g1, g2⟩ := getD_none f2
    have e : stepL m (some (owner, k)) h = some (owner.setIfInBounds j (some k), k + 1) := by
      show (layClean.free m owner (turns m) (bits h % (m + 1)) (bits h)).bind (fun j => some (owner.setIfInBounds j (some k), k + 1)) = _
      rw [f1]; rfl
    rw [List.foldl_cons, e]
    obtain ⟨o2, c1, c2, c3⟩ := fold_ok c hs (owner.setIfInBounds j (some k)) (k + 1) (by rw [Array.size_setIfInBounds]; exact h1) (by
      rw [Array.toList_setIfInBounds]
      refine (fm_set _ _ _ g2).trans ((h2.cons k).trans ?_)
      rw [List.range_succ]
      exact (List.perm_append_singleton k (List.range k)).symm) (by omega)
    refine ⟨o2, ?_, c2, ?_⟩
    · rw [c1]; simp only [List.length_cons]; congr 2; omega
    · simp only [List.length_cons]; rw [show k + (hs.length + 1) = k + 1 + hs.length by omega]; exact c3
theorem layClean_ok {m : Nat} (c : cycB m = true) (hs : Array Int) (hl : hs.size ≤ m) : ∃ o2, layClean m hs = some o2 ∧ o2.size = m + 1 ∧ (o2.toList.filterMap id).Perm (List.range hs.size) := by
  obtain ⟨o2, c1, c2, c3⟩ := fold_ok c hs.toList (Array.replicate (m + 1) none) 0 (by simp) (by simp [List.filterMap_replicate]) (by simpa using hl)
  refine ⟨o2, ?_, c2, by simpa using c3⟩
  unfold layClean
  rw [← Array.foldl_toList]
  have e : (List.foldl (fun acc h => do
      let (owner, k) ← acc
      let j ← layClean.free m owner (turns m) (bits h % (m + 1)) (bits h)
      pure (owner.setIfInBounds j (some k), k + 1)) (some (Array.replicate (m + 1) none, 0)) hs.toList : Option (Array (Option Nat) × Nat)) = hs.toList.foldl (stepL m) (some (Array.replicate (m + 1) none, 0)) := rfl
  rw [e, c1]
  rfl
theorem live_snd : ∀ (l : List (Option Nat)) (base : Nat), ((List.range l.length).filterMap fun j => (l.getD j none).map (fun x => (base + j, x))).map (·.2) = l.filterMap id
  | [], base => rfl
  | x :: l, base => by
    rw [List.length_cons, List.range_succ_eq_map, List.filterMap_cons, List.filterMap_map]
    have ih := live_snd l (base + 1)
    have e : (List.range l.length).filterMap ((fun j => ((x :: l).getD j none).map (fun x => (base + j, x))) ∘ Nat.succ) = (List.range l.length).filterMap fun j => (l.getD j none).map (fun x => (base + 1 + j, x)) := by
      congr 1
      funext j
      show ((x :: l).getD (j + 1) none).map _ = _
      simp only [List.getD_cons_succ]
      rw [show base + (j + 1) = base + 1 + j by omega]
    rw [e]
    cases x with
    | none => simpa using ih
    | some y =>
      simp only [List.getD_cons_zero, Option.map_some, List.map_cons]
      rw [ih]
      rfl
theorem laid_ok {m finger moves : Nat} {led plain : Bool} (c : cycB m = true) (hs : Array Int) (hl : hs.size ≤ m) : ∃ t order, laid m finger moves led plain hs = some (t, order) ∧ t.mask = m ∧ t.moves = moves ∧ t.led = led ∧ t.plain = plain ∧ Tb t hs.size ∧ order.toList.Perm (List.range hs.size) := by
  obtain ⟨o2, c1, c2, c3⟩ := layClean_ok c hs hl
  have e := live_snd o2.toList 0
  have hlen : ((List.range (m + 1)).filterMap fun j => (o2.getD j none).map (j, ·)) = ((List.range o2.toList.length).filterMap fun j => (o2.toList.getD j none).map (fun x => (0 + j, x))) := by
    rw [Array.length_toList, c2]
    congr 1
    funext j
    rw [Nat.zero_add, Array.getD_eq_getD_getElem?, List.getD_eq_getElem?_getD, Array.getElem?_toList]
  refine ⟨_, _, by unfold laid; rw [c1]; rfl, rfl, rfl, rfl, rfl, ⟨?_, rfl, c, hl⟩, ?_⟩
  · simp only [List.size_toArray, List.length_map]
    rw [hlen]
    have := congrArg List.length e
    rw [List.length_map] at this
    rw [this, c3.length_eq, List.length_range]
  · rw [List.toList_toArray, hlen, e]
    exact c3
theorem insertAt_size {α : Type} (xs : Array α) (p : Nat) (x : α) (h : p ≤ xs.size) : (insertAt xs p x).size = xs.size + 1 := by
  unfold insertAt
  simp only [Array.size_append, Array.size_push, Array.size_extract]
  omega
theorem below_le (xs : Array Nat) (j : Nat) : below xs j ≤ xs.size := by
  unfold below
  have : ∀ (fuel lo hi : Nat), lo ≤ hi → hi ≤ xs.size → below.go xs j fuel lo hi ≤ xs.size := by
    intro fuel
    induction fuel with
    | zero => intro lo hi h1 h2; unfold below.go; omega
    | succ fuel ih =>
      intro lo hi h1 h2
      unfold below.go
      split
      · rename_i hlt
        dsimp only
        split
        · exact ih _ _ (by omega) h2
        · exact ih _ _ (by omega) (by omega)
      · omega
  exact this _ _ _ (Nat.zero_le _) (Nat.le_refl _)
theorem put_ok {t : SetTable} {n : Nat} (T : Tb t n) (h : n + 1 ≤ t.mask) (j : Nat) : Tb (t.put j).1 (n + 1) ∧ (t.put j).2 ≤ n ∧ (t.put j).1.mask = t.mask ∧ (t.put j).1.led = t.led ∧ (t.put j).1.moves = t.moves := by
  unfold SetTable.put
  refine ⟨⟨?_, ?_, T.cyc, h⟩, ?_, rfl, rfl, rfl⟩
  · show (insertAt t.place (below t.place j) j).size = n + 1
    rw [insertAt_size _ _ _ (below_le _ _), T.size]
  · show (if has t.dummies j then eraseAt t.dummies (below t.dummies j) else t.dummies) = #[]
    rw [T.dm, has_nil]
    rfl
  · show below t.place j ≤ n
    rw [← T.size]
    exact below_le _ _
end ST
namespace ST
open PySem PySem.SetTable
section
variable {prog : Program} {w : World} {A : Around} {E : Value → Shared → Prop} {s : Shared}
abbrev TK (prog : Program) (w : World) (h : Heap) (k : List Str) (a : Addr) : Prop := IsTupleKey (strKind prog w) h k a
abbrev hsh (prog : Program) (w : World) (k : List Str) : Int := tupleKeyHash (strKind prog w) k
theorem items_str {k : List Str} {vs : List Value} (h : ItemsAre (strKind prog w) k vs) : ∀ v ∈ vs, ∃ x t, v = .str x t := by
  induction h with
  | nil => intro v hv; simp at hv
  | @cons k' v' ks vs h1 _ ih =>
    intro v hv
    rcases List.mem_cons.mp hv with rfl | hv
    · obtain ⟨t, rfl⟩ := Value.isStrOf_shape h1
      exact ⟨_, _, rfl⟩
    · exact ih v hv
theorem class_F {k : List Str} {a : Addr} {Q : Bool → Shared → Prop} (hk : TK prog w s.heap k a) (h : Q false s) : wpAny (model prog w) A (ofAClassStatement 8 (.ref a)) Q E s := by
  have hT := hk.typeIs
  obtain ⟨o, items, n, ho, _, hd, hi⟩ := hk
  unfold ofAClassStatement
  refine wpAny_bind (wpAny_typeOf hT ?_)
  show wpAny _ _ ((if ("tuple" == "tuple") = true then pure true else isSubtype (.type "tuple") (.type "tuple")) >>= _) _ _ s
  rw [if_pos (by decide)]
  refine wpAny_bind (wpAny_pure ?_)
  simp only [Bool.not_true, Bool.false_eq_true, if_false]
  refine wpAny_bind (wpAny_seqItems ho hd ?_)
  refine wpAny_bind ?_
  show wpAny _ _ (forIn items _ _) _ _ s
  rw [← Array.forIn_toList]
  refine wpAny_forIn_list _ (fun rest r s' => r.1 = none ∧ s' = s ∧ ∀ v ∈ rest, ∃ x t, v = Value.str x t) _ ?_ ?_ _ _ ⟨rfl, rfl, items_str hi⟩
  · rintro v rest r s' ⟨hr, rfl, hall⟩
    obtain ⟨x, t, rfl⟩ := hall v List.mem_cons_self
    refine wpAny_bind (wpAny_pure ?_)
    simp only [Bool.false_eq_true, if_false]
    exact wpAny_pure ⟨rfl, rfl, fun u hu' => hall u (List.mem_cons_of_mem _ hu')⟩
  · rintro ⟨r1, r2⟩ s' ⟨hr, rfl, _⟩
    simp only at hr
    subst hr
    exact wpAny_pure h
theorem seen_F {k : List Str} {b : Addr} (hk : TK prog w s.heap k b) {l : List Value} (hl : ∀ v ∈ l, ∃ k' a, v = .ref a ∧ TK prog w s.heap k' a) {Q : Bool → Shared → Prop} (h : Q false s) : wpAny (model prog w) A (searchCouldBeSeen (.ref b) l) Q E s := by
  unfold searchCouldBeSeen
  refine wpAny_bind ?_
  refine wpAny_forIn_list _ (fun rest r s' => r.1 = none ∧ s' = s ∧ ∀ v ∈ rest, ∃ k' a, v = Value.ref a ∧ TK prog w s.heap k' a) _ ?_ ?_ _ _ ⟨rfl, rfl, hl⟩
  · rintro v rest r s' ⟨hr, rfl, hall⟩
    obtain ⟨k', a, rfl, ha⟩ := hall v List.mem_cons_self
    have hrest : ∀ v ∈ rest, ∃ k' a, v = Value.ref a ∧ TK prog w s'.heap k' a := fun u hu' => hall u (List.mem_cons_of_mem _ hu')
    dsimp only
    split
    · exact wpAny_pure ⟨rfl, rfl, hrest⟩
    · refine wpAny_bind (wpAny_eqIsQuiet_tuple hk ?_)
      simp only [Bool.not_true, Bool.false_eq_true, if_false]
      refine wpAny_bind (wpAny_eqIsQuiet_tuple ha ?_)
      simp only [Bool.not_true, Bool.false_eq_true, if_false]
      refine wpAny_bind (class_F hk ?_)
      simp only [Bool.false_eq_true, if_false]
      refine wpAny_bind (class_F ha ?_)
      simp only [Bool.false_eq_true, if_false]
      exact wpAny_pure ⟨rfl, rfl, hrest⟩
  · rintro ⟨r1, r2⟩ s' ⟨hr, rfl, _⟩
    simp only at hr
    subst hr
    exact wpAny_pure h
theorem byValue_any {k : List Str} {a : Addr} {Q : Bool → Shared → Prop} (hk : TK prog w s.heap k a) (h : ∀ b, Q b s) : wpAny (model prog w) A (hashByValue 8 (.ref a)) Q E s := by
  have hT := hk.typeIs
  obtain ⟨o, items, n, ho, _, hd, hi⟩ := hk
  unfold hashByValue
  refine wpAny_bind (wpAny_specialOf hT F.slot_tuple_hash.lookup ?_)
  dsimp only
  refine wpAny_bind (wpAny_seqItems ho hd ?_)
  refine wpAny_bind ?_
  show wpAny _ _ (forIn items _ _) _ _ s
  rw [← Array.forIn_toList]
  refine wpAny_forIn_list _ (fun rest r s' => r.1 = none ∧ s' = s ∧ ∀ v ∈ rest, ∃ x t, v = Value.str x t) _ ?_ ?_ _ _ ⟨rfl, rfl, items_str hi⟩
  · rintro v rest r s' ⟨hr, rfl, hall⟩
    obtain ⟨x, t, rfl⟩ := hall v List.mem_cons_self
    refine wpAny_bind (wpAny_pure ?_)
    simp only [Bool.not_false, if_true]
    refine wpAny_pure ?_
    exact wpAny_pure (h _)
  · rintro ⟨r1, r2⟩ s' ⟨hr, rfl, _⟩
    simp only at hr
    subst hr
    exact wpAny_pure (h _)
def Ent (prog : Program) (w : World) (h : Heap) (ks : List (List Str)) (es : List (Int × Value)) : Prop := ∀ e ∈ es, ∃ k a, k ∈ ks ∧ e.2 = .ref a ∧ TK prog w h k a
theorem fits_of {t : SetTable} {n : Nat} (T : Tb t n) : t.fits n = true := by
  unfold SetTable.fits SetTable.fill
  rw [T.size, T.dm]
  simp [T.room]
end
end ST
namespace ST
open PySem PySem.SetTable
section
variable {prog : Program} {w : World} {A : Around} {E : Value → Shared → Prop} {s : Shared}
def SetT (prog : Program) (w : World) (h : Heap) (S : Addr) (ks : List (List Str)) (n : Nat) : Prop :=
  ∃ o es ep t, h.get? S = some o ∧ o.ExactSet ∧ o.data = .set es ep t ∧ es.size = n ∧ Tb t n ∧ ((t.mask = 7 ∧ n ≤ 4) ∨ (t.mask = 31 ∧ n ≤ 18)) ∧ Ent prog w h ks es.toList
theorem TK.keeps {h h' : Heap} {k : List Str} {a S : Addr} {o : Obj} {es ep t} (x : TK prog w h k a) (ho : h.get? S = some o) (hd : o.data = .set es ep t) (hs : Heap.SameBut S h h') : TK prog w h' k a := by
  obtain ⟨o', items, n, ho', hc, hd', hi⟩ := x
  have hne : a ≠ S := by
    rintro rfl
    obtain rfl : o' = o := Option.some.inj (ho'.symm.trans ho)
    rw [hd] at hd'; exact nomatch hd'
  exact ⟨o', items, n, (hs.2 a hne).trans ho', hc, hd', hi⟩
theorem Ent.keeps {h h' : Heap} {ks : List (List Str)} {l : List (Int × Value)} {S : Addr} {o : Obj} {es ep t} (x : Ent prog w h ks l) (ho : h.get? S = some o) (hd : o.data = .set es ep t) (hs : Heap.SameBut S h h') : Ent prog w h' ks l := fun e he => by
  obtain ⟨k, a, h1, h2, h3⟩ := x e he
  exact ⟨k, a, h1, h2, h3.keeps ho hd hs⟩
theorem store_get {h : Heap} {S : Addr} {o : Obj} {es es' : Array (Int × Value)} {ep : Nat} {t t' : SetTable} (ho : h.get? S = some o) (hd : o.data = .set es ep t) : (h.update S (Obj.putSet es' t')).get? S = some { o with data := .set es' (ep + 1) t' } := by
  have := Heap.get?_update_self (Obj.putSet es' t') ho (by rw [putSet_of es' t' hd]; rfl)
  rw [putSet_of es' t' hd] at this; exact this
theorem Ent.insert {h : Heap} {ks : List (List Str)} {es : Array (Int × Value)} {k : List Str} {b : Addr} {p : Nat} {x : Int} (hE : Ent prog w h ks es.toList) (hb : TK prog w h k b) : Ent prog w h (k :: ks) (SetTable.insertAt es p (x, .ref b)).toList := fun e he => by
  have he' := (SetTable.insertAt_perm es p (x, Value.ref b)).mem_iff.mp he
  rw [Array.toList_push] at he'
  rcases List.mem_append.mp he' with q | q
  · obtain ⟨k', a, h1, h2, h3⟩ := hE e q
    exact ⟨k', a, List.mem_cons_of_mem _ h1, h2, h3⟩
  · rw [List.mem_singleton] at q
    subst q
    exact ⟨k, b, List.mem_cons_self, rfl, hb⟩
theorem fill_eq {t : SetTable} {n : Nat} (T : Tb t n) : t.fill = n := by unfold SetTable.fill; rw [T.size, T.dm]; simp
theorem range_fm {α : Type} (es : Array α) : (List.range es.size).filterMap (fun i => es[i]?) = es.toList := by
  apply List.ext_getElem?
  intro i
  have : (List.range es.size).filterMap (fun i => es[i]?) = (List.range es.size).pmap (fun i h => es[i]) (fun i h => List.mem_range.mp h) := by
    rw [List.pmap_eq_map_attach, ← List.filterMap_eq_map]
    conv => lhs; rw [← List.attach_map_subtype_val (List.range es.size)]
    rw [List.filterMap_map]
    congr 1
    funext ⟨i, hi⟩
    simp [List.mem_range.mp hi]
  rw [this]
  simp [List.getElem?_pmap, List.getElem?_range]
  by_cases hi : i < es.size
  · simp [hi]
  · simp [hi]
end
end ST
namespace ST
open PySem PySem.SetTable PyProof.Rows
section
variable {prog : Program} {w : World} {A : Around} {R : Result → Shared → Prop} {I : Addr} {fp wr : List Addr} {G : Array GenState → Array GenState → Prop} {n : Nat} {P : Nat → Value → Prop} {St : Nat → Shared → Prop}
theorem TK.moved {h h' : Heap} {k : List Str} {a : Addr} (x : TK prog w h k a) (hm : ∀ o, h.get? a = some o → h'.get? a = some o) : TK prog w h' k a := by
  obtain ⟨o', items, n, ho', hc, hd', hi⟩ := x
  exact ⟨o', items, n, hm _ ho', hc, hd', hi⟩
theorem SetT.moved {h h' : Heap} {S : Addr} {ks : List (List Str)} {n : Nat} (x : SetT prog w h S ks n) (hS : ∀ o, h.get? S = some o → h'.get? S = some o) (hm : ∀ k ∈ ks, ∀ a, TK prog w h k a → TK prog w h' k a) : SetT prog w h' S ks n := by
  obtain ⟨o, es, ep, t, ho, hex, hd, hsz, T, hmk, hE⟩ := x
  exact ⟨o, es, ep, t, hS _ ho, hex, hd, hsz, T, hmk, fun e he => let ⟨k, a, h1, h2, h3⟩ := hE e he; ⟨k, a, h1, h2, hm k h1 a h3⟩⟩
end
end ST
namespace ST
open PySem PySem.SetTable PyProof.Rows
section
variable {prog : Program} {w : World} {A : Around} {E : Value → Shared → Prop} {s : Shared}
abbrev eset (led : Bool) : Obj := { cls := .type "set", dict := none, data := .set #[] 0 (.fresh 0 0 led) }
end
end ST
namespace FD
open PySem PySem.Spec PyProof.Rows L2
def strsOf : List Dv → Option (List Str)
  | [] => some []
  | .str x :: r => (strsOf r).map (x :: ·)
  | _ => none
def keysOf : List Dv → Option (List (List Str))
  | [] => some []
  | .tup ds :: r => match strsOf ds, keysOf r with
    | some k, some ks => some (k :: ks)
    | _, _ => none
  | _ => none
section
variable {X : Cx} {pins : List (Addr × Obj)} {σ : L2.St} {H : Hp} {s : Shared}
theorem strs_items {prog : Program} {w : World} : ∀ {ds : List Dv} {k : List Str} {ys : List V} {its : List Value}, strsOf ds = some k → Reps X.K H ds ys → Vals ys its → PySem.ItemsAre (PySem.strKind prog w) k its
  | [], k, ys, its, h, r, v => by
    cases h
    cases (show ys = [] from r)
    cases v
    exact .nil
  | .str x :: ds, k, ys, its, h, r, v => by
    obtain ⟨y, us, rfl, r1, r2⟩ : ∃ v us, ys = v :: us ∧ Rep X.K H (.str x) v ∧ Reps X.K H ds us := r
    cases (show y = .str x from r1)
    obtain ⟨k', h1, rfl⟩ := Option.map_eq_some_iff.mp (show (strsOf ds).map (x :: ·) = some k from h)
    cases v with
    | cons v1 v2 =>
      obtain ⟨t, rfl⟩ := v1
      exact .cons (by show Value.isStrOf x (.str x t) = true; simp [Value.isStrOf]) (strs_items h1 r2 v2)
  | .non :: ds, k, ys, its, h, r, v => by cases h
  | .bl _ :: ds, k, ys, its, h, r, v => by cases h
  | .int _ :: ds, k, ys, its, h, r, v => by cases h
  | .tup _ :: ds, k, ys, its, h, r, v => by cases h
  | .lst _ :: ds, k, ys, its, h, r, v => by cases h
  | .scr _ :: ds, k, ys, its, h, r, v => by cases h
  | .exn _ :: ds, k, ys, its, h, r, v => by cases h
theorem tk_of (I : Inv X pins σ H s) {ds : List Dv} {k : List Str} {v : V} {u : Value} (h : strsOf ds = some k) (r : Rep X.K H (.tup ds) v) (q : RelV v u) : ∃ a, u = .ref a ∧ ST.TK X.prog X.w s.heap k a := by
  obtain ⟨a, xs, rfl, hH, rs⟩ := r.tupE
  cases (show u = Value.ref a from q)
  obtain ⟨its, rv, ⟨o, e, c, n, d⟩, hz⟩ := I.tuple (SqT.of hH)
  exact ⟨a, rfl, o, its.toArray, _, e, c, d, by simpa using strs_items h rs rv⟩
theorem keys_at (I : Inv X pins σ H s) : ∀ {ds : List Dv} {ks : List (List Str)} {xs : List V} {its : List Value}, keysOf ds = some ks → Reps X.K H ds xs → Vals xs its → ks.length = its.length ∧ ∀ i, i < its.length → ∃ a, its[i]? = some (.ref a) ∧ ST.TK X.prog X.w s.heap (ks.getD i []) a
  | [], ks, xs, its, h, r, v => by
    cases h
    cases (show xs = [] from r)
    cases v
    exact ⟨rfl, fun i hi => absurd hi (Nat.not_lt_zero _)⟩
  | .tup es :: ds, ks, xs, its, h, r, v => by
    obtain ⟨y, us, rfl, r1, r2⟩ : ∃ v us, xs = v :: us ∧ Rep X.K H (.tup es) v ∧ Reps X.K H ds us := r
    unfold keysOf at h
    split at h
    · rename_i k ks' h1 h2
      cases h
      cases v with
      | cons v1 v2 =>
        obtain ⟨a, rfl, ta⟩ := tk_of I h1 r1 v1
        obtain ⟨q1, q2⟩ := keys_at I h2 r2 v2
        refine ⟨by simp [q1], fun i hi => ?_⟩
        cases i with
        | zero => exact ⟨a, rfl, ta⟩
        | succ i =>
          obtain ⟨a', e1, e2⟩ := q2 i (by simpa using hi)
          exact ⟨a', by simpa using e1, by simpa using e2⟩
    · cases h
  | .non :: ds, ks, xs, its, h, r, v => by cases h
  | .bl _ :: ds, ks, xs, its, h, r, v => by cases h
  | .int _ :: ds, ks, xs, its, h, r, v => by cases h
  | .str _ :: ds, ks, xs, its, h, r, v => by cases h
  | .lst _ :: ds, ks, xs, its, h, r, v => by cases h
  | .scr _ :: ds, ks, xs, its, h, r, v => by cases h
  | .exn _ :: ds, ks, xs, its, h, r, v => by cases h
end
section
variable {X : Cx} {p p2 pos pos2 : Pos} {e : Expr} {ga : FnA}
end
def mulL : Dv → Dv → Option (Rs Dv)
  | .lst xs, .int n => if 0 ≤ n ∧ xs.length * n.toNat ≤ 100000 ∧ n ≤ 100000 then some (.ok (.lst (List.replicate n.toNat xs).flatten)) else none
  | x, y => mulX x y
end FD
namespace FD
open PySem PySem.Spec PyProof.Rows L2
section
variable {X : Cx}
theorem reps_rep {K : PySem.W.Frag} {H : Hp} {ds : List Dv} {vs : List V} (h : Reps K H ds vs) : ∀ n : Nat, Reps K H (List.replicate n ds).flatten (List.replicate n vs).flatten
  | 0 => rfl
  | n + 1 => by
    rw [List.replicate_succ, List.replicate_succ, List.flatten_cons, List.flatten_cons]
    exact h.append (reps_rep h n)
def rMulL : R2 := fun x y H Q => rRep x y H Q ∨ (rMulS x y H Q ∨ rI CMul (fun i j => .int (i * j)) x y H Q)
theorem o_mulL : OpR X (binaryOp .Mult) rMulL := op_rep.or o_mulX
theorem g_mulL : GOp X rMulL mulL := by
  intro dx dy x y H Q rx ry o
  cases dx with
  | lst xs =>
    cases dy with
    | int n =>
      have o2 : Out X H (if 0 ≤ n ∧ xs.length * n.toNat ≤ 100000 ∧ n ≤ 100000 then some (.ok (.lst (List.replicate n.toNat xs).flatten)) else none) Q := o
      by_cases hc : 0 ≤ n ∧ xs.length * n.toNat ≤ 100000 ∧ n ≤ 100000
      · rw [if_pos hc] at o2
        obtain ⟨p, vs, rfl, h1, q1⟩ := rx.lstE
        refine .inl ⟨p, n, vs, rfl, ry, h1, by omega, by omega, by rw [q1.length]; exact le_line hc.2.1, fun l hl => o2 _ _ (same_new hl _) ⟨l, _, rfl, upd_same, Reps.mono (same_new hl _) _ _ (reps_rep q1 _)⟩⟩
      · rw [if_neg hc] at o2
        exact o2.elim
    | _ => exact .inr (g_mulX _ _ x y H Q rx ry o)
  | _ => exact .inr (g_mulX _ _ x y H Q rx ry o)
end
end FD
namespace FD
open PySem PySem.Spec PyProof.Rows L2
def frs {α : Type} (P : α → Bool) : Sem α → Bool
  | .pure a => P a
  | .fresh _ => true
  | .at _ k => frs P (k ())
  | .rule _ k => frs P (k ())
  | .point _ k => frs P (k ())
  | _ => false
structure FE1 (X : Cx) (e : Expr) (f : FnE) : Prop where
  h : ∀ (pins : List (Addr × Obj)) (s : Shared) (σ : L2.St) (H : Hp) (Q : VK), 1 ≤ s.toks → Inv X pins σ H s → tF X f σ H Q → wpAny (model X.prog X.w) X.A (eval e X.env) (EP X pins σ Q) X.xe s
structure FT1 (X : Cx) (e : Expr) (f : FnB) : Prop where
  h : ∀ (pins : List (Addr × Obj)) (s : Shared) (σ : L2.St) (H : Hp) (Q : Bool → Hp → Prop), 1 ≤ s.toks → Inv X pins σ H s → tT X f σ H Q → wpAny (model X.prog X.w) X.A (isTrue e X.env (eval e X.env)) (TP X pins σ Q) X.xe s
structure FW1 (X : Cx) (e : Expr) (f : FnB) : Prop where
  h : ∀ (whole : Sem Value) (pins : List (Addr × Obj)) (s : Shared) (σ : L2.St) (H : Hp) (Q : Bool → Hp → Prop), 1 ≤ s.toks → Inv X pins σ H s → tT X f σ H Q → wpAny (model X.prog X.w) X.A (isTrue e X.env whole) (TP X pins σ Q) X.xe s
structure FS1 (X : Cx) (st : Stmt) (f : FnS) : Prop where
  h : ∀ (pins : List (Addr × Obj)) (s : Shared) (σ : L2.St) (H : Hp) (D : Ends), 1 ≤ s.toks → Inv X pins σ H s → tS X f D σ H → wpAny (model X.prog X.w) X.A (exec st X.env) (SP X pins D) X.xe s
structure FSs1 (X : Cx) (st : List Stmt) (f : FnS) : Prop where
  h : ∀ (pins : List (Addr × Obj)) (s : Shared) (σ : L2.St) (H : Hp) (D : Ends), 1 ≤ s.toks → Inv X pins σ H s → tS X f D σ H → wpAny (model X.prog X.w) X.A (execs st X.env) (SP X pins D) X.xe s
structure FTg (X : Cx) (e : Expr) (f : FnB) : Prop where
  h : ∀ (pins : List (Addr × Obj)) (s : Shared) (σ : L2.St) (H : Hp) (Q : Bool → Hp → Prop), Inv X pins σ H s → tT X f σ H Q → wpAny (model X.prog X.w) X.A (isTrue e X.env (eval e X.env)) (fun b s' => (b = true ∨ 1 ≤ s'.toks) ∧ TP X pins σ Q b s') X.xe s
structure FWg (X : Cx) (e : Expr) (f : FnB) : Prop where
  h : ∀ (whole : Sem Value) (pins : List (Addr × Obj)) (s : Shared) (σ : L2.St) (H : Hp) (Q : Bool → Hp → Prop), Inv X pins σ H s → tT X f σ H Q → wpAny (model X.prog X.w) X.A (isTrue e X.env whole) (fun b s' => (b = true ∨ 1 ≤ s'.toks) ∧ TP X pins σ Q b s') X.xe s
def isNext : Flow → Bool
  | .next => true
  | _ => false
structure FSg (X : Cx) (st : Stmt) (f : FnS) : Prop where
  h : ∀ (pins : List (Addr × Obj)) (s : Shared) (σ : L2.St) (H : Hp) (D : Ends), Inv X pins σ H s → tS X f D σ H → wpAny (model X.prog X.w) X.A (exec st X.env) (fun fl s' => (isNext fl = false ∨ 1 ≤ s'.toks) ∧ SP X pins D fl s') X.xe s
section
variable {X : Cx} {a b o e : Expr} {fa fo : FnE} {ga gb : FnB} {f g : FnS} {rest : List Expr} {st : Stmt} {sts as bs : List Stmt} {pos apos cpos : Pos}
theorem FWg.ft (h : FWg X e ga) : FTg X e ga := ⟨h.h _⟩
end
end FD
namespace FD
open PySem PySem.Spec PyProof.Rows L2
section
variable {prog : Program} {w : World} {A : Around} {E : Value → Shared → Prop} {s : Shared}
theorem nextT_item {iv tv : Addr} {k : Nat} {vs : Array Value} {v : Value} {Q : Value → Shared → Prop} (gi : s.heap.IsTupleIter iv tv k) (gt : s.heap.IsTuple tv vs) (gv : vs[k]? = some v)
    (q : ∀ h', h'.IsTupleIter iv tv (k + 1) → Heap.SameBut iv s.heap h' → Q v { s with heap := h' }) : wpAny (model prog w) A (Builtin.SmallTypes.nextOf (.ref iv)) Q E s := by
  obtain ⟨ob, o1, o2, o3⟩ := id gi; obtain ⟨tb, t1, _, m, t2⟩ := gt
  unfold Builtin.SmallTypes.nextOf
  refine wpAny_bind (wpAny_callSpecial?_slot (name := Str.ofString "__next__") gi.typeIs F.slot_tuple_iterator_next (wpAny_call_entry F.slot_tuple_iterator_next gi.typeIs F.entry_tuple_iterator_next ?_ (F.args_tuple_iterator_next_1 _)))
  show wpAny _ _ (field (.ref iv) 0 >>= _) _ _ s; refine wpAny_bind (wpAny_field o1 o3 (x := .ref tv) rfl ?_)
  show wpAny _ _ (if (Value.ref tv == Value.none) = true then _ else _) _ _ s; rw [if_neg (show ¬ ((Value.ref tv == Value.none) = true) from Bool.false_ne_true)]
  show wpAny _ _ (field (.ref iv) 1 >>= _) _ _ s; refine wpAny_bind (wpAny_field o1 o3 (x := .int k 0) rfl ?_)
  show wpAny _ _ (seqItems? (.ref tv) >>= _) _ _ s; refine wpAny_bind (wpAny_seqItems t1 t2 ?_); simp only [Int.toNat_natCast, gv]
  refine wpAny_bind (wpAny_setField o1 o3 (by simp) (wpAny_pure ⟨v, rfl, wpAny_pure (q _ ⟨_, Heap.get?_update_self _ o1 (Obj.isFreed_of_fields (Obj.data_mapFields o3 _)), (Obj.cls_mapFields ..).trans o2, by rw [Obj.data_mapFields o3]; simp [rawInt]⟩ (Heap.SameBut.update ..))⟩))
theorem nextT_end {iv tv : Addr} {k : Nat} {vs : Array Value} {Q : Value → Shared → Prop} (hh : A.handled = none) (gi : s.heap.IsTupleIter iv tv k) (gt : s.heap.IsTuple tv vs) (gv : vs[k]? = none)
    (q : ∀ h' e, Heap.ExtBut iv s.heap h' → (∃ o, h'.get? e = some o ∧ o.cls = .type "StopIteration") → E (.ref e) { s with heap := h' }) : wpAny (model prog w) A (Builtin.SmallTypes.nextOf (.ref iv)) Q E s := by
  obtain ⟨ob, o1, o2, o3⟩ := id gi; obtain ⟨tb, t1, _, m, t2⟩ := gt
  unfold Builtin.SmallTypes.nextOf
  refine wpAny_bind (wpAny_callSpecial?_slot (name := Str.ofString "__next__") gi.typeIs F.slot_tuple_iterator_next (wpAny_call_entry F.slot_tuple_iterator_next gi.typeIs F.entry_tuple_iterator_next ?_ (F.args_tuple_iterator_next_1 _)))
  show wpAny _ _ (field (.ref iv) 0 >>= _) _ _ s; refine wpAny_bind (wpAny_field o1 o3 (x := .ref tv) rfl ?_)
  show wpAny _ _ (if (Value.ref tv == Value.none) = true then _ else _) _ _ s; rw [if_neg (show ¬ ((Value.ref tv == Value.none) = true) from Bool.false_ne_true)]
  show wpAny _ _ (field (.ref iv) 1 >>= _) _ _ s; refine wpAny_bind (wpAny_field o1 o3 (x := .int k 0) rfl ?_)
  show wpAny _ _ (seqItems? (.ref tv) >>= _) _ _ s; refine wpAny_bind (wpAny_seqItems t1 t2 ?_); simp only [Int.toNat_natCast, gv]
  refine wpAny_bind (wpAny_rule (wpAny_bind (wpAny_setField o1 o3 (by simp) ?_)))
  show wpAny _ _ (newExc (.type "StopIteration") [] >>= _) _ _ _; refine wpAny_bind ?_; simp only [newExc, newTuple]; refine wpAny_bind (wpAny_newObj_type ?_ (by size_fits))
  refine wpAny_bind (m := firstArgMember _ _) (wpAny_of_eq (a := Value.none) (by first | rfl | (simp only [firstArgMember]; rfl)) ?_); refine wpAny_newObj_type ?_ (by size_fits); simp only [raiseNew]
  refine wpAny_bind (wpAny_handled ?_); first | rw [show A.in1.handled = none from hh] | rw [hh]
  exact wpAny_bind (wpAny_pure (wpAny_throw (q _ _ (((Heap.SameBut.update ..).extBut.push _).push _) ⟨_, Heap.get?_push_size _ rfl, rfl⟩)))
end
abbrev zq1 (h : Heap) (l1 : Addr) : Heap := h.push { cls := .type "tuple_iterator", data := .fields #[.ref l1, .int 0 0] }
section
variable {prog : Program} {w : World} {A : Around} {E : Value → Shared → Prop} {s : Shared}
end
end FD
namespace FD
open PySem PySem.Spec PyProof.Rows L2
structure ZSt (z TI TO i1 i2 a b : Addr) (i : Nat) (h : Heap) : Prop where
  z : IsZip h z TI TO .none
  ti : IsPair h TI (.ref i1) (.ref i2)
  to : ∃ p q, IsPair h TO p q
  j1 : h.IsTupleIter i1 a i
  j2 : h.IsTupleIter i2 b i
structure ZNe (z TI TO i1 i2 : Addr) : Prop where
  n1 : TI ≠ z
  n2 : TO ≠ z
  n3 : i1 ≠ z
  n4 : i2 ≠ z
  n5 : TI ≠ TO
  n6 : TI ≠ i1
  n7 : TI ≠ i2
  n8 : TO ≠ i1
  n9 : TO ≠ i2
  n10 : i1 ≠ i2
theorem five {z TI TO i1 i2 c : Addr} (h : c ∈ [z, TI, TO, i1, i2]) : c = z ∨ c = TI ∨ c = TO ∨ c = i1 ∨ c = i2 := by simpa using h
def tgG (X : Cx) (b : Dv → Ev → Option Ev) : TG := fun v σ H Q => ∃ d ρ ρ', Rep X.K H d v ∧ Envs X.K H σ ρ ∧ b d ρ = some ρ' ∧ ∀ σ' H', Same H H' → Envs X.K H' σ' ρ' → Q σ' H'
theorem FG.pg {X : Cx} {tg : Expr} {b : Dv → Ev → Option Ev} (h : FG X tg b) : PG X tg (tgG X b) := fun pins s σ H v u Q I r ⟨d, ρ, ρ', rd, E, e, q⟩ =>
  thn (h.h pins s σ H v u d ρ ρ' I r rd E e) fun _ s' ⟨σ', H', I', e1, E'⟩ => ⟨σ', H', I', q σ' H' e1 E'⟩
end FD
namespace FD
open PySem PySem.Spec PyProof.Rows L2
section
variable {X : Cx} {p pos : Pos} {e : Expr} {es : List Expr} {ga : FnA}
end
end FD
namespace FD
open PySem PySem.Spec PyProof.Rows L2
def oStore (fi fe : FnE) : FnO2 := fun ρ ds => bndO (fe ρ) fun d => bndO (fi ρ) fun k => match k with
  | .int k => if 0 ≤ k ∧ k < ds.length then some (.nx ρ (ds.set k.toNat d)) else none
  | _ => none
theorem Reps.set {K : PySem.W.Frag} {H : Hp} {d : Dv} {v : V} (rd : Rep K H d v) : ∀ {ds : List Dv} {vs : List V} (j : Nat), Reps K H ds vs → Reps K H (ds.set j d) (vs.set j v)
  | [], vs, j, r => by cases (show vs = [] from r); exact r
  | d0 :: ds, vs, 0, r => by
    obtain ⟨v0, vs', rfl, r0, rt⟩ : ∃ v us', vs = v :: us' ∧ Rep K H d0 v ∧ Reps K H ds us' := r
    exact ⟨v, vs', rfl, rd, rt⟩
  | d0 :: ds, vs, j + 1, r => by
    obtain ⟨v0, vs', rfl, r0, rt⟩ : ∃ v us', vs = v :: us' ∧ Rep K H d0 v ∧ Reps K H ds us' := r
    exact ⟨v0, vs'.set j v, rfl, r0, Reps.set rd j rt⟩
section
variable {X : Cx} {i : Nat} {e ix : Expr} {fe fi : FnE} {pos ps : Pos}
theorem fo_store (hex : X.ex = []) {x : Str} {apos : Pos} (hx : PE X (.Name x apos) (tVar i)) (hi : FE X ix fi) (he : FE X e fe)
    (hs : swapsWithSole [.Subscript (.Name x apos) ix ps] e pos.line X.env = pure false := by kernel_rfl) (hw : swappedStores [.Subscript (.Name x apos) ix ps] e X.env = pure none := by kernel_rfl)
    (h1 : (assignEach [.Subscript (.Name x apos) ix ps] X.env).map (·.2) = [assign (.Subscript (.Name x apos) ix ps) X.env] := by kernel_rfl)
    (ha : ∀ v, assign (.Subscript (.Name x apos) ix ps) X.env v = (do let ov ← holding [v] (eval (.Name x apos) X.env); let iv ← holding [v, ov] (eval ix X.env); standAt ps; holding [v, ov, iv] (setItem ov iv v); release [v, ov, iv] []) := by intro _; kernel_rfl) :
    FO1 X i (.Assign [.Subscript (.Name x apos) ix ps] e pos) (oStore fi fe) := ⟨fun pins s σ Hf D I ⟨H, a, xs, ρ, ds, e1, ha', hia, E, r, o⟩ => by
  refine ps_asg (pe_lift hex he.h) (pg_sub hx (pe_lift hex hi.h) set_list ha) hs hw h1 pins s σ Hf D I ⟨H, a, xs, e1, ha', ρ, E, ?_⟩
  unfold oStore at o
  match hfe : fe ρ with
  | none => rw [hfe] at o; exact o.elim
  | some (.exc _) => rw [hfe] at o; exact o.elim
  | some (.ok d) =>
    rw [hfe] at o
    match hfi : fi ρ with
    | none => dsimp only [bndO] at o; rw [hfi] at o; exact o.elim
    | some (.exc _) => dsimp only [bndO] at o; rw [hfi] at o; exact o.elim
    | some (.ok k) =>
      dsimp only [bndO] at o
      rw [hfi] at o
      dsimp only at o
      intro v H' e' rd ha2
      refine ⟨.ref a, hia, H', a, xs, rfl, ha2, ρ, E.mono e', ?_⟩
      show Out X H' (fi ρ) _
      rw [hfi]
      intro w H2 e2 rk ha3
      cases k <;> try exact (show False from o).elim
      rename_i k
      dsimp only at o
      split at o
      · rename_i hk
        cases (show w = .int k from rk)
        have hl := r.length
        have hj : ixN xs.length k = some k.toNat := by
          unfold ixN
          rw [if_pos hk.1, if_pos (by omega)]
        refine ⟨a, xs, k, k.toNat, rfl, rfl, upd_same, hj, ?_⟩
        rw [upd_upd]
        exact o σ H2 (xs.set k.toNat v) (e'.trans e2) ha3 hia (E.mono (e'.trans e2)) (Reps.set (Rep.mono e2 _ _ rd) k.toNat (Reps.mono (e'.trans e2) _ _ r))
      · exact o.elim⟩
end
end FD
namespace FD
open PySem PySem.Spec PyProof.Rows L2
section
variable {X : Cx} {p pos : Pos} {e : Expr} {es : List Expr} {ga : FnA}
end
end FD
namespace FD
open PySem PySem.Spec PyProof.Rows L2
end FD
namespace FD
open PySem PySem.Spec PyProof.Rows L2
section
variable {X : Cx}
end
end FD
namespace FD
open PySem PySem.Spec PyProof.Rows L2
theorem nf_tmul : fillsNumberSlot (.type "tuple") "mul" = pure false :=
  PySem.fillsNumberSlot_seq (r := some (.builtin "tuple.__rmul__")) (id := "tuple.__mul__") PySem.F.slot_tuple_mul.lookup (by decide +kernel) PySem.F.slot_tuple_rmul.lookup (by decide +kernel)
theorem rep_tup : seqRepeat? (.type "tuple") = pure (some (.builtin "tuple.__mul__")) := by
  unfold seqRepeat?
  rw [PySem.seqSlot_of (name := "__mul__") (T := "tuple") (id := "tuple.__mul__") PySem.F.slot_tuple_mul.lookup (by decide +kernel), PySem.seqSlot_of (name := "__rmul__") (T := "tuple") (id := "tuple.__rmul__") PySem.F.slot_tuple_rmul.lookup (by decide +kernel)]
  rfl
theorem rmul_it (a : Int) (t : Tok) (l : Addr) (items : Array Value) (n : Nat) (dd : Option Addr) (sl : Array (Option Value)) :
    Meets (Builtin.«int.__rmul__» ⟨[.int a t, .ref l], []⟩) (fun _ R s => s.heap.get? l = some { cls := .type "tuple", dict := dd, data := .seq items n, slots := sl } ∧ R (.ok (.ret Value.notImplemented)) s) :=
  .of_wp fun prog w A R s h => by
    obtain ⟨hp, g, d, tk, os⟩ := s
    obtain ⟨hl, h⟩ := h
    wp_walk using wpAny_loadPart' hl
    exact ⟨_, rfl, h⟩
theorem tmul_it (l : Addr) (items : Array Value) (n : Nat) (dd : Option Addr) (sl : Array (Option Value)) (x : Int) (u : Tok) (h0 : ¬ (decide (x < -(2 ^ 63)) || decide (x ≥ 2 ^ 63)) = true) (h1 : ¬ (items.isEmpty || x == 1) = true) (h2 : ¬ (decide (x ≤ 0) || items.isEmpty) = true) (h3 : ¬ (items.size * x > (2 ^ 63 - 1) / 8)) (h4 : ¬ Builtin.Tuple.tupleTooMany (items.size * x) = true) (hsz : (List.foldl (fun x1 x2 => x1 ++ x2) #[] (List.replicate x.toNat items)).size ≤ sizeLine) :
    Meets (Builtin.«tuple.__mul__» ⟨[.ref l, .int x u], []⟩) (fun _ R s => s.heap.get? l = some { cls := .type "tuple", dict := dd, data := .seq items n, slots := sl } ∧ R (.ok (.ret (Value.ref s.heap.objs.size))) { s with heap := s.heap.push { cls := Value.type "tuple", data := Data.seq (List.foldl (fun x1 x2 => x1 ++ x2) #[] (List.replicate x.toNat items)) }, toks := s.toks }) :=
  .of_wp fun prog w A R s h => by
    obtain ⟨hp, g, d, tk, os⟩ := s
    obtain ⟨hl, h⟩ := h
    have f1 := AutoSeq1.idx_int
    wp_walk using wpAny_loadPart' hl
    refine wpAny_ite_false (by simpa using h0) ?_
    wp_walk using wpAny_loadPart' hl
    refine wpAny_ite_false (decide_eq_false h3) ?_
    wp_walk
    exact ⟨_, rfl, h⟩
theorem tooFew {m : Nat} (h : m ≤ 100000) : ¬ Builtin.Tuple.tupleTooMany ((m : Nat) : Int) = true := by
  have : sizeLine = 16777216 := by decide
  unfold Builtin.Tuple.tupleTooMany
  simp
  omega
section
variable {X : Cx}
def rRepT (K : PySem.W.Frag) : R2 := fun x y H Q => ∃ a k xs, x = .ref a ∧ y = .int k ∧ SqT K H a xs ∧ xs ≠ [] ∧ 2 ≤ k ∧ k ≤ 100000 ∧ xs.length * k.toNat ≤ 100000 ∧
  ∀ p, H p = none → Q (.ref p) (upd H p (.tup (List.replicate k.toNat xs).flatten))
theorem op_repT : OpR X (binaryOp .Mult) (rRepT X.K) := by
  intro pins s σ H x y v u Q I rx ry h
  obtain ⟨a, k, xs, rfl, rfl, ha, hx, h1, h2, hz, q⟩ := h
  cases rx
  obtain ⟨t, rfl⟩ := ry
  obtain ⟨its, r, p1, _⟩ := I.tuple ha
  have hl : xs.length = its.length := r.length
  have hne : its ≠ [] := fun z => hx (r.nil_iff.mp z)
  obtain ⟨⟨cls, dd, data, sl⟩, ho, hc, n, hd⟩ := id p1
  simp only at hc hd
  subst hc hd
  have hk : (k.toNat : Int) = k := by omega
  have hnew : List.foldl (fun x1 x2 => x1 ++ x2) #[] (List.replicate k.toNat its.toArray) = (List.replicate k.toNat its).flatten.toArray := by
    have := foldl_rep its k.toNat []
    rw [List.nil_append] at this
    exact this
  have hlen : its.length * k.toNat ≤ 100000 := by rw [← hl]; exact hz
  have hmul : ((its.toArray.size : Nat) : Int) * k = ((its.length * k.toNat : Nat) : Int) := by
    rw [List.size_toArray, Int.natCast_mul, hk]
  have hrl : (List.replicate k.toNat its).flatten.length = k.toNat * its.length := len_rep its k.toNat
  have hsz : (List.foldl (fun x1 x2 => x1 ++ x2) #[] (List.replicate k.toNat its.toArray)).size ≤ sizeLine := by
    rw [hnew, List.size_toArray, hrl, Nat.mul_comm]
    exact le_line hlen
  have hb : its.toArray.isEmpty = false := by
    cases its with
    | nil => exact absurd rfl hne
    | cons _ _ => rfl
  refine wpAny_binaryOp_repeat_ref (T := "tuple") (U := "int") (by decide) ⟨_, ho, rfl⟩ (fun s' => typeIs_int s' k t) nf_tmul PySem.F.fills_int_mul PySem.F.slot_int_rmul rep_tup PySem.F.slot_int_index.lookup
    (call_meets PySem.F.slot_int_rmul (typeIs_int s k t) PySem.F.entry_int_rmul (PySem.F.args_int_rmul_2 _ _) (rmul_it k t a its.toArray n dd sl)
      ⟨ho, rfl, ⟨_, ho, rfl⟩, call_meets PySem.F.slot_tuple_mul ⟨_, ho, rfl⟩ PySem.F.entry_tuple_mul (PySem.F.args_tuple_mul_2 _ _)
        (tmul_it a its.toArray n dd sl k t (by simp; omega) (by rw [hb]; simp; omega) (by rw [hb]; simp; omega) (by rw [hmul]; have : (its.length * k.toNat : Nat) ≤ 100000 := hlen; omega) (by rw [hmul]; exact tooFew hlen) hsz) ⟨ho, ?_⟩⟩)
  rw [hnew]
  refine ⟨.ref s.heap.objs.size, _, I.laid (t' := s.toks) (o := .tup (List.replicate k.toNat xs).flatten) (fun b ob q => Heap.get?_push_of_some _ q) (Nat.le_refl _) ?_, rfl, q _ (I.hok.fresh (Nat.le_refl _))⟩
  exact ⟨by rw [len_rep, Nat.mul_comm]; exact le_line hz, _, r.rep k.toNat, IsTup.new _ _⟩
def mulT : Dv → Dv → Option (Rs Dv)
  | .tup xs, .int n => if 2 ≤ n ∧ n ≤ 100000 ∧ xs ≠ [] ∧ xs.length * n.toNat ≤ 100000 then some (.ok (.tup (List.replicate n.toNat xs).flatten)) else none
  | x, y => mulL x y
def rMulT (X : Cx) : R2 := fun x y H Q => rRepT X.K x y H Q ∨ rMulL x y H Q
theorem o_mulT : OpR X (binaryOp .Mult) (rMulT X) := op_repT.or o_mulL
theorem g_mulT : GOp X (rMulT X) mulT := by
  intro dx dy x y H Q rx ry o
  cases dx with
  | tup xs =>
    cases dy with
    | int n =>
      have o2 : Out X H (if 2 ≤ n ∧ n ≤ 100000 ∧ xs ≠ [] ∧ xs.length * n.toNat ≤ 100000 then some (.ok (.tup (List.replicate n.toNat xs).flatten)) else none) Q := o
      by_cases hc : 2 ≤ n ∧ n ≤ 100000 ∧ xs ≠ [] ∧ xs.length * n.toNat ≤ 100000
      · rw [if_pos hc] at o2
        obtain ⟨p, vs, rfl, h1, q1⟩ := rx.tupE
        refine .inl ⟨p, n, vs, rfl, ry, SqT.of h1, fun z => hc.2.2.1 (List.length_eq_zero_iff.mp (by rw [← q1.length, z]; rfl)), hc.1, hc.2.1, by rw [q1.length]; exact hc.2.2.2, fun l hl => o2 _ _ (same_new hl _) ⟨l, _, rfl, upd_same, Reps.mono (same_new hl _) _ _ (reps_rep q1 _)⟩⟩
      · rw [if_neg hc] at o2
        exact o2.elim
    | _ => exact .inr (g_mulL _ _ x y H Q rx ry o)
  | _ => exact .inr (g_mulL _ _ x y H Q rx ry o)
end
end FD
namespace ST
open PySem PySem.SetTable
abbrev Rise (xs : Array Nat) : Prop := xs.toList.Pairwise (· < ·)
theorem Rise.lt {xs : Array Nat} (R : Rise xs) {i k : Nat} (hi : i < xs.size) (hk : k < xs.size) (h : i < k) : xs[i] < xs[k] := by
  have := List.pairwise_iff_getElem.mp R i k (by simpa using hi) (by simpa using hk) h
  simpa using this
theorem Rise.le {xs : Array Nat} (R : Rise xs) {i k : Nat} (hi : i < xs.size) (hk : k < xs.size) (h : i ≤ k) : xs[i] ≤ xs[k] := by
  rcases Nat.lt_or_ge i k with h' | h'
  · exact Nat.le_of_lt (R.lt hi hk h')
  · have : i = k := by omega
    subst this
    exact Nat.le_refl _
theorem below_go {xs : Array Nat} (R : Rise xs) (j : Nat) : ∀ (fuel lo hi : Nat), lo ≤ hi → hi ≤ xs.size → hi - lo ≤ fuel → (∀ i (h : i < xs.size), i < lo → xs[i] < j) → (∀ i (h : i < xs.size), hi ≤ i → j ≤ xs[i]) →
    (∀ i (h : i < xs.size), i < below.go xs j fuel lo hi → xs[i] < j) ∧ (∀ i (h : i < xs.size), below.go xs j fuel lo hi ≤ i → j ≤ xs[i])
  | 0, lo, hi, h1, h2, h3, a, b => by
    unfold below.go
    have : lo = hi := by omega
    subst this
    exact ⟨a, b⟩
  | fuel + 1, lo, hi, h1, h2, h3, a, b => by
    unfold below.go
    split
    · rename_i hlt
      have hm : (lo + hi) / 2 < xs.size := by omega
      dsimp only
      have hg : xs.getD ((lo + hi) / 2) j = xs[(lo + hi) / 2] := by simp [Array.getD, hm]
      rw [hg]
      split
      · rename_i hc
        exact below_go R j fuel _ hi (by omega) h2 (by omega) (fun i h hi' => Nat.lt_of_le_of_lt (R.le h hm (by omega)) hc) b
      · rename_i hc
        exact below_go R j fuel lo _ (by omega) (by omega) (by omega) a fun i h hi' => Nat.le_trans (Nat.le_of_not_lt hc) (R.le hm h hi')
    · have : lo = hi := by omega
      subst this
      exact ⟨a, b⟩
theorem below_spec {xs : Array Nat} (R : Rise xs) (j : Nat) : (∀ i (h : i < xs.size), i < below xs j → xs[i] < j) ∧ (∀ i (h : i < xs.size), below xs j ≤ i → j ≤ xs[i]) :=
  below_go R j xs.size 0 xs.size (Nat.zero_le _) (Nat.le_refl _) (by omega) (fun i h hi => absurd hi (Nat.not_lt_zero _)) fun i h hi => absurd h (by omega)
theorem below_at {xs : Array Nat} (R : Rise xs) {i j : Nat} (h : xs[i]? = some j) : below xs j = i := by
  obtain ⟨hi, e⟩ := Array.getElem?_eq_some_iff.mp h
  obtain ⟨a, b⟩ := below_spec R j
  rcases Nat.lt_trichotomy (below xs j) i with q | q | q
  · have h1 := b (below xs j) (by omega) (Nat.le_refl _)
    have h2 := R.lt (by omega) hi q
    omega
  · exact q
  · have h1 := a i hi q
    omega
theorem slot_live {t : SetTable} (R : Rise t.place) {i j : Nat} (h : t.place[i]? = some j) : t.slot j = .live i := by
  unfold SetTable.slot
  dsimp only
  rw [below_at R h, h]
  simp
theorem slot_ne {t : SetTable} {n : Nat} (T : Tb t n) (R : Rise t.place) {j : Nat} : t.slot j ≠ .empty ↔ j ∈ t.place.toList := by
  constructor
  · intro h
    rcases slot_cases T j with q | ⟨i, _, e⟩
    · exact absurd q h
    · exact Array.mem_toList_iff.mpr (Array.mem_of_getElem? e)
  · intro h
    obtain ⟨i, hi, e⟩ := List.getElem_of_mem h
    have : t.place[i]? = some j := by
      rw [← Array.getElem?_toList, List.getElem?_eq_getElem hi, e]
    rw [slot_live R this]
    intro z
    cases z
def tm (m : Nat) : SetTable := { mask := m, place := #[], dummies := #[], finger := 0, led := true, moves := 0, plain := true }
theorem advN_mask (t : SetTable) : ∀ (n : Nat) (p : Probe), advN t n p = advN (tm t.mask) n p
  | 0, p => rfl
  | n + 1, p => advN_mask t n _
def pos (m : Nat) (h : Int) (n : Nat) : Nat := (advN (tm m) n ((tm m).probeStart h)).j
theorem pos_of (t : SetTable) (h : Int) (n : Nat) : (advN t n (t.probeStart h)).j = pos t.mask h n := by
  rw [advN_mask]; rfl
def Pth (m : Nat) (l : List Nat) (h : Int) (j : Nat) : Prop := ∃ N, N < 10 * turns m ∧ pos m h N = j ∧ ∀ x, x < N → pos m h x ∈ l
theorem Pth.mono {m : Nat} {l l' : List Nat} {h : Int} {j : Nat} (p : Pth m l h j) (hs : ∀ x ∈ l, x ∈ l') : Pth m l' h j := by
  obtain ⟨N, h1, h2, h3⟩ := p
  exact ⟨N, h1, h2, fun x hx => hs _ (h3 x hx)⟩
def asc (t : SetTable) (es : Array (Int × Value)) : List (Nat × (Int × Value)) := t.place.toList.zip es.toList
def Pa (t : SetTable) (es : Array (Int × Value)) : Prop := ∀ je ∈ asc t es, Pth t.mask t.place.toList je.2.1 je.1
theorem ins_list {α : Type} (xs : Array α) (p : Nat) (x : α) (h : p ≤ xs.size) : (SetTable.insertAt xs p x).toList = xs.toList.take p ++ x :: xs.toList.drop p := by
  rw [SetTable.toList_insertAt]
theorem zip_ins {α β : Type} (a : List α) (b : List β) (p : Nat) (x : α) (y : β) (hl : a.length = b.length) : (a.take p ++ x :: a.drop p).zip (b.take p ++ y :: b.drop p) = (a.zip b).take p ++ (x, y) :: (a.zip b).drop p := by
  rw [List.zip_append (by simp [hl]), List.zip_cons_cons]
  simp only [List.zip_eq_zipWith, List.take_zipWith, List.drop_zipWith]
theorem mem_ins {α : Type} (l : List α) (p : Nat) (x y : α) : y ∈ l.take p ++ x :: l.drop p ↔ y = x ∨ y ∈ l := by
  rw [List.mem_append, List.mem_cons]
  constructor
  · rintro (h | h | h)
    · exact .inr (List.mem_of_mem_take h)
    · exact .inl h
    · exact .inr (List.mem_of_mem_drop h)
  · rintro (h | h)
    · exact .inr (.inl h)
    · rw [← List.take_append_drop p l, List.mem_append] at h
      rcases h with h | h
      · exact .inl h
      · exact .inr (.inr h)
theorem put_more {t : SetTable} {n : Nat} (T : Tb t n) (R : Rise t.place) {es : Array (Int × Value)} (hs : es.size = n) {j : Nat} (hj : t.slot j = .empty) (e : Int × Value) :
    Rise (t.put j).1.place ∧ (∀ x, x ∈ (t.put j).1.place.toList ↔ x = j ∨ x ∈ t.place.toList) ∧ ∀ x, x ∈ asc (t.put j).1 (SetTable.insertAt es (t.put j).2 e) ↔ x = (j, e) ∨ x ∈ asc t es := by
  have hn : j ∉ t.place.toList := fun h => (slot_ne T R).mpr h hj
  have hp : (t.put j).2 = below t.place j := rfl
  have hle := below_le t.place j
  have e1 : (t.put j).1.place.toList = t.place.toList.take (below t.place j) ++ j :: t.place.toList.drop (below t.place j) := ins_list _ _ _ hle
  have e2 : (SetTable.insertAt es (t.put j).2 e).toList = es.toList.take (below t.place j) ++ e :: es.toList.drop (below t.place j) := ins_list _ _ _ (by rw [hp, hs, ← T.size]; exact hle)
  obtain ⟨a, b⟩ := below_spec R j
  refine ⟨?_, fun x => by rw [e1]; exact mem_ins _ _ _ _, fun x => ?_⟩
  · show (t.put j).1.place.toList.Pairwise (· < ·)
    rw [e1, List.pairwise_append, List.pairwise_cons]
    have lo : ∀ x ∈ t.place.toList.take (below t.place j), x < j := by
      intro x hx
      obtain ⟨i, hi, e⟩ := List.getElem_of_mem hx
      rw [List.getElem_take] at e
      have h1 : i < below t.place j ∧ i < t.place.size := by simp only [List.length_take, Array.length_toList] at hi; omega
      have := a i h1.2 h1.1
      rw [← e]
      simpa using this
    have hi' : ∀ x ∈ t.place.toList.drop (below t.place j), j < x := by
      intro x hx
      have hm := List.mem_of_mem_drop hx
      obtain ⟨i, hi, e⟩ := List.getElem_of_mem hx
      rw [List.getElem_drop] at e
      have h1 : below t.place j + i < t.place.size := by simp only [List.length_drop, Array.length_toList] at hi; omega
      have := b _ h1 (Nat.le_add_right _ _)
      have h2 : j ≤ x := by rw [← e]; simpa using this
      have : j ≠ x := fun z => hn (z ▸ hm)
      omega
    exact ⟨R.sublist (List.take_sublist _ _), ⟨hi', R.sublist (List.drop_sublist _ _)⟩, fun x hx y hy => by
      rcases List.mem_cons.mp hy with rfl | hy
      · exact lo x hx
      · exact Nat.lt_trans (lo x hx) (hi' y hy)⟩
  · unfold asc
    rw [e1, e2, zip_ins _ _ _ _ _ (by simp [T.size, hs])]
    exact mem_ins _ _ _ _
theorem adv_in (t : SetTable) : ∀ (k : Nat) (p : Probe), k ≤ p.more → (advN t k p).j = p.j + k
  | 0, p, _ => rfl
  | k + 1, p, h => by
    show (advN t k (t.advance p)).j = _
    rw [adv_pos t p (by omega), adv_in t k _ (by show k ≤ p.more - 1; omega)]
    show p.j + 1 + k = p.j + (k + 1)
    omega
theorem find_range {P : Nat → Bool} : ∀ {n k : Nat}, (List.range n).find? P = some k → k < n ∧ P k = true ∧ ∀ x, x < k → P x = false := by
  intro n k h
  have h1 := List.find?_some h
  have h2 := List.mem_range.mp (List.mem_of_find?_eq_some h)
  refine ⟨h2, h1, fun x hx => ?_⟩
  rw [List.find?_eq_some_iff_append] at h
  obtain ⟨_, as, bs, e, hn⟩ := h
  have hk : as.length = k := by
    have := congrArg (fun l => l[as.length]?) e
    simp only [List.getElem?_append_right (Nat.le_refl _), Nat.sub_self, List.getElem?_cons_zero] at this
    rw [List.getElem?_eq_some_iff] at this
    obtain ⟨q, r⟩ := this
    simpa using r
  have hxm : x ∈ as := by
    have this : (List.range n)[x]? = (as ++ k :: bs)[x]? := by rw [e]
    rw [List.getElem?_append_left (by omega), List.getElem?_range (by omega)] at this
    exact List.mem_of_getElem? this.symm
  have := hn x hxm
  simpa using this
theorem free_path {m : Nat} {owner : Array (Option Nat)} : ∀ (fuel : Nat) (p : Probe) (j : Nat), p.j = p.i → p.more = runEnd m p.i - p.i → layClean.free m owner fuel p.i p.perturb = some j →
    (owner.getD j (some 0)).isNone = true ∧ ∃ N, N < 10 * fuel ∧ (advN (tm m) N p).j = j ∧ ∀ x, x < N → (owner.getD (advN (tm m) x p).j (some 0)).isNone = false
  | 0, p, j, _, _, h => by unfold layClean.free at h; cases h
  | fuel + 1, p, j, hj, hm, h => by
    have hr := runEnd_le m p.i
    unfold layClean.free at h
    have hlen : runEnd m p.i + 1 - p.i = p.more + 1 := by
      rw [hm]
      have : p.i ≤ runEnd m p.i := by unfold runEnd; split <;> omega
      omega
    rw [hlen] at h
    split at h
    · rename_i k hk
      cases h
      obtain ⟨q1, q2, q3⟩ := find_range hk
      refine ⟨q2, k, by omega, by rw [adv_in _ _ _ (by omega), hj], fun x hx => ?_⟩
      rw [adv_in _ _ _ (by omega), hj]
      exact q3 x hx
    · rename_i hk
      have hall : ∀ x, x ≤ p.more → (owner.getD (p.i + x) (some 0)).isNone = false := by
        intro x hx
        have := List.find?_eq_none.mp hk x (List.mem_range.mpr (by omega))
        rw [Bool.not_eq_true] at this
        exact this
      obtain ⟨r1, N, r2, r3, r4⟩ := free_path fuel (leapSt (tm m) p) j rfl rfl h
      refine ⟨r1, p.more + 1 + N, by omega, by rw [advN_add, to_leap _ _ _ rfl]; exact r3, fun x hx => ?_⟩
      by_cases hc : x ≤ p.more
      · rw [adv_in _ _ _ hc, hj]
        exact hall x hc
      · obtain ⟨y, rfl⟩ : ∃ y, x = p.more + 1 + y := ⟨x - (p.more + 1), by omega⟩
        rw [advN_add, to_leap _ _ _ rfl]
        exact r4 y (by omega)
def PathO (m : Nat) (owner : Array (Option Nat)) (hs : Nat → Option Int) : Prop := ∀ j x, owner[j]? = some (some x) → ∃ h, hs x = some h ∧ ∃ N, N < 10 * turns m ∧ pos m h N = j ∧ ∀ y, y < N → (owner.getD (pos m h y) (some 0)).isNone = false ∧ pos m h y ≤ m
theorem pos_le (m : Nat) (h : Int) : ∀ n, pos m h n ≤ m := by
  have key : ∀ (n : Nat) (p : Probe), p.i ≤ m → p.j + p.more ≤ m → (advN (tm m) n p).j ≤ m := by
    intro n
    induction n with
    | zero => intro p _ h2; show p.j ≤ m; omega
    | succ n ih =>
      intro p h1 h2
      show (advN (tm m) n ((tm m).advance p)).j ≤ m
      by_cases hc : 0 < p.more
      · rw [adv_pos _ p hc]
        exact ih _ h1 (by show p.j + 1 + (p.more - 1) ≤ m; omega)
      · rw [adv_zero _ p (by omega)]
        have hl : (SetTable.leap m p.i p.perturb).1 ≤ m := by
          show (p.i * 5 + 1 + p.perturb / 32) % (m + 1) ≤ m
          exact Nat.le_of_lt_succ (Nat.mod_lt _ (Nat.succ_pos m))
        refine ih _ hl ?_
        show (SetTable.leap m p.i p.perturb).1 + (runEnd m (SetTable.leap m p.i p.perturb).1 - (SetTable.leap m p.i p.perturb).1) ≤ m
        unfold runEnd
        split <;> omega
  intro n
  have hb : bits h % (m + 1) ≤ m := Nat.le_of_lt_succ (Nat.mod_lt _ (Nat.succ_pos m))
  refine key n _ hb ?_
  show bits h % (m + 1) + (runEnd m (bits h % (m + 1)) - bits h % (m + 1)) ≤ m
  unfold runEnd
  split <;> omega
theorem fold_path {m : Nat} {hf : Nat → Option Int} : ∀ (hs : List Int) (owner o2 : Array (Option Nat)) (k k2 : Nat), owner.size = m + 1 → (∀ i (h : i < hs.length), hf (k + i) = some hs[i]) → PathO m owner hf → hs.foldl (stepL m) (some (owner, k)) = some (o2, k2) → PathO m o2 hf
  | [], owner, o2, k, k2, _, _, hP, e => by cases e; exact hP
  | h :: hs, owner, o2, k, k2, hz, hh, hP, e => by
    rw [List.foldl_cons] at e
    have hnone : ∀ (l : List Int), l.foldl (stepL m) none = none := fun l => by
      induction l with
      | nil => rfl
      | cons a l ih => exact ih
    have hst : stepL m (some (owner, k)) h = (layClean.free m owner (turns m) (bits h % (m + 1)) (bits h)).bind (fun j => some (owner.setIfInBounds j (some k), k + 1)) := rfl
    cases hfr : layClean.free m owner (turns m) (bits h % (m + 1)) (bits h) with
    | none => rw [hst, hfr] at e; rw [show (none : Option Nat).bind (fun j => some (owner.setIfInBounds j (some k), k + 1)) = none from rfl, hnone] at e; cases e
    | some j =>
      rw [hst, hfr] at e
      obtain ⟨f1, N, f2, f3, f4⟩ := free_path (m := m) (owner := owner) (turns m) ((tm m).probeStart h) j rfl rfl hfr
      obtain ⟨g1, g2⟩ := getD_none f1
      refine fold_path hs (owner.setIfInBounds j (some k)) o2 (k + 1) k2 (by rw [Array.size_setIfInBounds]; exact hz) (fun i hi => by
        have := hh (i + 1) (by simpa using hi)
        rw [show k + 1 + i = k + (i + 1) by omega]
        simpa using this) ?_ e
      have keep : ∀ x, (owner.getD x (some 0)).isNone = false → ((owner.setIfInBounds j (some k)).getD x (some 0)).isNone = false := by
        intro x hx
        rw [Array.getD_eq_getD_getElem?] at hx ⊢
        rw [Array.getElem?_setIfInBounds]
        split
        · first
            | rfl
            | (split <;> rfl)
        · exact hx
      intro j' x hx
      rw [Array.getElem?_setIfInBounds] at hx
      split at hx
      · rename_i hjj
        subst hjj
        have hx : (some (some k) : Option (Option Nat)) = some (some x) := by
          first
            | exact hx
            | (rw [if_pos g1] at hx; exact hx)
        cases hx
        have h0 := hh 0 (by simp)
        refine ⟨h, by simpa using h0, N, f2, f3, fun y hy => ⟨keep _ (f4 y hy), pos_le m h y⟩⟩
      · obtain ⟨h', a1, N', a2, a3, a4⟩ := hP j' x hx
        exact ⟨h', a1, N', a2, a3, fun y hy => ⟨keep _ (a4 y hy).1, (a4 y hy).2⟩⟩
theorem layClean_path {m : Nat} (hs : Array Int) {o2 : Array (Option Nat)} (e : layClean m hs = some o2) : PathO m o2 fun i => hs[i]? := by
  unfold layClean at e
  rw [← Array.foldl_toList] at e
  have e1 : (List.foldl (fun acc h => do
      let (owner, k) ← acc
      let j ← layClean.free m owner (turns m) (bits h % (m + 1)) (bits h)
      pure (owner.setIfInBounds j (some k), k + 1)) (some (Array.replicate (m + 1) none, 0)) hs.toList : Option (Array (Option Nat) × Nat)) = hs.toList.foldl (stepL m) (some (Array.replicate (m + 1) none, 0)) := rfl
  rw [e1] at e
  cases hf : hs.toList.foldl (stepL m) (some (Array.replicate (m + 1) none, 0)) with
  | none => rw [hf] at e; cases e
  | some q =>
    rw [hf] at e
    cases e
    exact fold_path hs.toList (Array.replicate (m + 1) none) q.1 0 q.2 (by simp) (fun i hi => by
      have hi' : i < hs.size := by simpa using hi
      simp [hi']) (fun j x hx => by
        rw [Array.getElem?_replicate] at hx
        split at hx <;> cases hx) hf
theorem laid_more {m finger moves : Nat} {led plain : Bool} (c : cycB m = true) (es : Array (Int × Value)) (hl : es.size ≤ m) {t : SetTable} {order : Array Nat} (e : laid m finger moves led plain (es.map (·.1)) = some (t, order)) :
    Rise t.place ∧ (∀ je ∈ asc t (order.filterMap (fun i => es[i]?)), je.2 ∈ es.toList) ∧ Pa t (order.filterMap (fun i => es[i]?)) := by
  obtain ⟨o2, c1, c2, c3⟩ := layClean_ok c (es.map (·.1)) (by simpa using hl)
  have hp := layClean_path (es.map (·.1)) c1
  unfold laid at e
  rw [c1] at e
  cases e
  have hlive : ∀ jk ∈ (List.range (m + 1)).filterMap fun j => (o2.getD j none).map (j, ·), o2[jk.1]? = some (some jk.2) := by
    intro jk hjk
    obtain ⟨j, hj, q⟩ := List.mem_filterMap.mp hjk
    rw [Option.map_eq_some_iff] at q
    obtain ⟨x, hx, rfl⟩ := q
    have hj' := List.mem_range.mp hj
    rw [Array.getD_eq_getD_getElem?] at hx
    cases hg : o2[j]? with
    | none => rw [hg] at hx; cases hx
    | some y => rw [hg] at hx; have : y = some x := hx; rw [← this]
  have hsome : ∀ jk ∈ (List.range (m + 1)).filterMap fun j => (o2.getD j none).map (j, ·), ∃ e, es[jk.2]? = some e := by
    intro jk hjk
    obtain ⟨h, h1, _⟩ := hp _ _ (hlive jk hjk)
    dsimp only at h1
    rw [Array.getElem?_map, Option.map_eq_some_iff] at h1
    obtain ⟨e, he, _⟩ := h1
    exact ⟨e, he⟩
  have hin : ∀ y, (o2.getD y (some 0)).isNone = false → y ≤ m → y ∈ ((List.range (m + 1)).filterMap fun j => (o2.getD j none).map (j, ·)).map (·.1) := by
    intro y hy hle
    have hlt : y < o2.size := by omega
    rw [Array.getD_eq_getD_getElem?, Array.getElem?_eq_getElem hlt] at hy
    cases hv : o2[y] with
    | none => rw [hv] at hy; simp at hy
    | some x =>
      refine List.mem_map.mpr ⟨(y, x), List.mem_filterMap.mpr ⟨y, List.mem_range.mpr (by omega), ?_⟩, rfl⟩
      rw [Array.getD_eq_getD_getElem?, Array.getElem?_eq_getElem hlt, hv]
      rfl
  generalize hL : ((List.range (m + 1)).filterMap fun j => (o2.getD j none).map (j, ·)) = L at *
  have hasc : ∀ (l : List (Nat × Nat)), (∀ jk ∈ l, ∃ e, es[jk.2]? = some e) → (l.map (·.1)).zip ((l.map (·.2)).filterMap fun i => es[i]?) = l.filterMap fun jk => (es[jk.2]?).map (jk.1, ·) := by
    intro l
    induction l with
    | nil => intro _; rfl
    | cons a l ih =>
      intro h
      obtain ⟨e, he⟩ := h a List.mem_cons_self
      simp only [List.map_cons, List.filterMap_cons, he, List.zip_cons_cons, Option.map_some]
      rw [ih fun b hb => h b (List.mem_cons_of_mem _ hb)]
  have easc : asc { mask := m, place := (L.map (·.1)).toArray, dummies := #[], finger := finger, led := led, moves := moves, plain := plain } (((L.map (·.2)).toArray).filterMap (fun i => es[i]?)) = L.filterMap fun jk => (es[jk.2]?).map (jk.1, ·) := by
    unfold asc
    rw [Array.toList_filterMap]
    exact hasc L hsome
  refine ⟨?_, fun je hje => ?_, fun je hje => ?_⟩
  · show (L.map (·.1)).toArray.toList.Pairwise (· < ·)
    rw [List.toList_toArray, ← hL, List.pairwise_map]
    refine List.Pairwise.filterMap _ (R := (· < ·)) ?_ List.pairwise_lt_range
    intro a a' hlt b hb b' hb'
    obtain ⟨x, _, rfl⟩ := Option.map_eq_some_iff.mp hb
    obtain ⟨x', _, rfl⟩ := Option.map_eq_some_iff.mp hb'
    exact hlt
  · rw [easc] at hje
    obtain ⟨jk, _, q⟩ := List.mem_filterMap.mp hje
    obtain ⟨e, he, rfl⟩ := Option.map_eq_some_iff.mp q
    exact Array.mem_toList_iff.mpr (Array.mem_of_getElem? he)
  · rw [easc] at hje
    obtain ⟨jk, hjk, q⟩ := List.mem_filterMap.mp hje
    obtain ⟨e, he, rfl⟩ := Option.map_eq_some_iff.mp q
    obtain ⟨h, h1, N, h2, h3, h4⟩ := hp _ _ (hlive jk hjk)
    dsimp only at h1
    rw [Array.getElem?_map, he] at h1
    cases h1
    refine ⟨N, h2, h3, fun x hx => ?_⟩
    show pos m e.1 x ∈ (L.map (·.1)).toArray.toList
    rw [List.toList_toArray]
    exact hin _ (h4 x hx).1 (h4 x hx).2
theorem it_add (m : Nat) : ∀ (a b i : Nat), it m (a + b) i = it m b (it m a i)
  | 0, b, i => by rw [Nat.zero_add]; rfl
  | a + 1, b, i => by rw [Nat.succ_add]; exact it_add m a b (stp m i)
def orb (m : Nat) : Nat → Nat → List Nat
  | 0, _ => []
  | n + 1, i => i :: orb m n (stp m i)
theorem orb_it (m : Nat) : ∀ (n i j : Nat), j ∈ orb m n i → ∃ k, k < n ∧ it m k i = j
  | 0, _, _, h => by simp [orb] at h
  | n + 1, i, j, h => by
    rcases List.mem_cons.mp h with rfl | h
    · exact ⟨0, by omega, rfl⟩
    · obtain ⟨k, h1, h2⟩ := orb_it m n _ j h
      exact ⟨k + 1, by omega, h2⟩
theorem orb_all : ((List.range 128).all fun j => (orb 127 128 0).contains j) = true := by decide +kernel
theorem orb_back : it 127 128 0 = 0 := by decide +kernel
theorem cyc127 : cycB 127 = true := by
  have hit : ∀ j, j < 128 → ∃ k, k < 128 ∧ it 127 k 0 = j := fun j hj => by
    have := List.all_eq_true.mp orb_all j (List.mem_range.mpr hj)
    exact orb_it 127 128 0 j (by simpa using this)
  unfold cycB
  refine List.all_eq_true.mpr fun i hi => List.all_eq_true.mpr fun j hj => List.any_eq_true.mpr ?_
  obtain ⟨a, ha, ea⟩ := hit i (List.mem_range.mp hi)
  obtain ⟨b, hb, eb⟩ := hit j (List.mem_range.mp hj)
  by_cases hc : a ≤ b
  · refine ⟨b - a, List.mem_range.mpr (by omega), ?_⟩
    rw [← ea, ← it_add, show a + (b - a) = b by omega, eb]
    simp
  · refine ⟨128 - a + b, List.mem_range.mpr (by omega), ?_⟩
    rw [← ea, ← it_add, show a + (128 - a + b) = 128 + b by omega, it_add, orb_back, eb]
    simp
end ST
namespace ST
open PySem PySem.SetTable
theorem go_any {t : SetTable} {n : Nat} (T : Tb t n) (hashAt : Nat → Int) (h : Int) : ∀ (N fuel : Nat) (p : Probe) (i0 : Nat), Vp t p → N < fuel → t.slot (advN t N p).j = .live i0 → (∀ k, k < N → t.slot (advN t k p).j ≠ .empty) →
    (∃ m i, m ≤ N ∧ t.slot (advN t m p).j = .live i ∧ t.place[i]? = some (advN t m p).j ∧ hashAt i = h ∧ probe.go t hashAt h fuel p = some (.candidate (advN t m p).j i (advN t (m + 1) p))) ∨ hashAt i0 ≠ h
  | N, 0, p, i0, v, hf, _, _ => absurd hf (Nat.not_lt_zero _)
  | N, fuel + 1, p, i0, v, hf, he, hn => by
    have hne : t.slot p.j ≠ .empty := by
      cases N with
      | zero => rw [show t.slot p.j = .live i0 from he]; intro z; cases z
      | succ N => exact hn 0 (by omega)
    rcases slot_cases T p.j with h0 | ⟨i, h1, h2⟩
    · exact absurd h0 hne
    · by_cases hh : hashAt i = h
      · refine .inl ⟨0, i, by omega, h1, h2, hh, ?_⟩
        unfold probe.go
        rw [h1]
        dsimp only
        rw [if_pos (by simpa using hh)]
        rfl
      · have hg : probe.go t hashAt h (fuel + 1) p = probe.go t hashAt h fuel (t.advance p) := by
          conv => lhs; unfold probe.go
          rw [h1]
          dsimp only
          rw [if_neg (by simpa using hh)]
        cases N with
        | zero =>
          have : i = i0 := by
            have e : t.slot p.j = .live i0 := he
            rw [h1] at e
            cases e; rfl
          subst this
          exact .inr hh
        | succ N =>
          rcases go_any T hashAt h N fuel (t.advance p) i0 v.adv (by omega) he (fun k hk => hn (k + 1) (by omega)) with ⟨m, i', q1, q2, q3, q4, q5⟩ | q
          · exact .inl ⟨m + 1, i', by omega, q2, q3, q4, by rw [hg, q5]; rfl⟩
          · exact .inr q
section
variable {prog : Program} {w : World} {A : Around} {E : Value → Shared → Prop} {s : Shared}
theorem search_free {S b : Addr} {o : Obj} {es : Array (Int × Value)} {ep : Nat} {t : SetTable} {ks : List (List Str)} {k : List Str} {h : Int} {adding : Bool} {Q : SetFound → Shared → Prop} (hu : A.units < cLine)
    (ho : s.heap.get? S = some o) (hd : o.data = .set es ep t) (T : Tb t es.size) (hm : t.mask % 2 = 1) (hE : Ent prog w s.heap ks es.toList) (hx : TK prog w s.heap k b) (hk : k ∉ ks) :
    ∀ (N fuel : Nat) (st : Option Probe), (∀ p, st = some p → Vp t p) → N < fuel → t.slot (advN t N (st.getD (t.probeStart h))).j = .empty → (∀ m, m < N → t.slot (advN t m (st.getD (t.probeStart h))).j ≠ .empty) → N < 10 * turns t.mask →
      Q (.free (advN t N (st.getD (t.probeStart h))).j false) s → wpAny (model prog w) A (setSearchFrom S (.ref b) h adding fuel st) Q E s := by
  intro N
  induction N using Nat.strongRecOn with
  | _ N ih =>
    intro fuel st hv hf he hn hN hQ
    cases fuel with
    | zero => exact absurd hf (Nat.not_lt_zero _)
    | succ fuel =>
      have hfit := fits_of T
      have v : Vp t (st.getD (t.probeStart h)) := by
        cases st with
        | none => exact start_v h
        | some p => exact hv p rfl
      unfold setSearchFrom
      refine wpAny_bind (wpAny_setState_of ho hd hfit ?_)
      dsimp only
      have hgw : t.gaveWay = false := by unfold SetTable.gaveWay; rw [hm]; rfl
      rw [hgw]
      simp only [Bool.false_eq_true, if_false]
      unfold SetTable.probe
      rcases go_met T _ h N _ (st.getD (t.probeStart h)) v hN he hn with q | ⟨m, i, hmN, q1, q2, q3, q5⟩
      · rw [q]
        dsimp only
        exact wpAny_pure hQ
      · rw [q5]
        dsimp only
        have hi : i < es.size := by
          have := (Array.getElem?_eq_some_iff.mp q2).1
          rw [T.size] at this
          exact this
        obtain ⟨k', a, hk', ea, ta⟩ := hE es[i] (Array.mem_toList_iff.mpr (Array.getElem_mem hi))
        have hg : es[i]? = some (es[i].1, .ref a) := by rw [Array.getElem?_eq_getElem hi, ← ea]
        have rest : wpAny (model prog w) A (do
            let some (_, y) := es[i]? | unsupported "internal:set-entry"
            let equal ← holding [y] (eqBool y (.ref b))
            let (es', _, t') ← setState S
            if (adding && equal) = true then return SetFound.there none
            let some same := t'.sameMemory t.moves t.mask | unsupported "set.changed-during-lookup:is-the-new-block-at-the-old-address"
            let still ← match (if same then t'.slot (advN t m (st.getD (t.probeStart h))).j else .empty) with
              | .live i' => match es'[i']? with
                | some (_, y') => do pure (if ← isSame y' y then some i' else none)
                | none => pure none
              | _ => pure none
            match still with
            | none => rule "set.search.anew"; setSearchFrom S (.ref b) h adding fuel none
            | some i' => if equal then return .there (some i') else setSearchFrom S (.ref b) h adding fuel (some (advN t (m + 1) (st.getD (t.probeStart h))))) Q E s := by
          rw [hg]
          dsimp only
          refine wpAny_bind (wpAny_holding (wpAny_eqBool_tuple hu ta hx ?_))
          have hne : decide (k' = k) = false := decide_eq_false fun z => hk (z ▸ hk')
          rw [hne]
          refine wpAny_bind (wpAny_setState_of ho hd hfit ?_)
          dsimp only
          rw [Bool.and_false]
          simp only [Bool.false_eq_true, if_false]
          have hsm : t.sameMemory t.moves t.mask = some true := by unfold SetTable.sameMemory; simp
          rw [hsm]
          dsimp only
          rw [if_pos rfl, q1]
          dsimp only
          rw [hg]
          dsimp only
          have hsame : isSame (Value.ref a) (Value.ref a) = pure true := by
            unfold isSame
            dsimp only
            rw [if_pos (by simp)]
          rw [hsame]
          refine wpAny_bind (wpAny_bind (wpAny_pure (wpAny_pure ?_)))
          rw [if_pos rfl]
          refine ih (N - (m + 1)) (by omega) fuel (some (advN t (m + 1) (st.getD (t.probeStart h)))) (fun p hp => by cases hp; exact Vp.advN (m + 1) v) (by omega) ?_ ?_ (by omega) (by
            show Q (.free (advN t (N - (m + 1)) (advN t (m + 1) (st.getD (t.probeStart h)))).j false) s
            rw [← advN_add, show m + 1 + (N - (m + 1)) = N by omega]
            exact hQ)
          · show t.slot (advN t (N - (m + 1)) (advN t (m + 1) (st.getD (t.probeStart h)))).j = .empty
            rw [← advN_add, show m + 1 + (N - (m + 1)) = N by omega]
            exact he
          · intro x hx'
            show t.slot (advN t x (advN t (m + 1) (st.getD (t.probeStart h)))).j ≠ .empty
            rw [← advN_add]
            exact hn _ (by omega)
        by_cases hled : t.led = true
        · rw [hled]
          simp only [Bool.not_true, Bool.false_eq_true, if_false]
          exact rest
        · have hled' : t.led = false := by simpa using hled
          rw [hled']
          simp only [Bool.not_false, if_true]
          refine wpAny_bind (seen_F hx (fun v hv => ?_) ?_)
          · obtain ⟨e, he', rfl⟩ := List.mem_map.mp hv
            have hem : e ∈ es.toList := by
              have := Array.mem_toList_iff.mp he'
              rw [Array.mem_filter] at this
              exact Array.mem_toList_iff.mpr this.1
            obtain ⟨k2, a2, _, e2, t2⟩ := hE e hem
            exact ⟨k2, a2, e2, t2⟩
          · simp only [Bool.false_eq_true, if_false]
            exact rest
theorem search_hit {S b a0 : Addr} {i0 : Nat} {o : Obj} {es : Array (Int × Value)} {ep : Nat} {t : SetTable} {ks : List (List Str)} {k : List Str} {Q : SetFound → Shared → Prop} (hu : A.units < cLine)
    (ho : s.heap.get? S = some o) (hd : o.data = .set es ep t) (T : Tb t es.size) (hm : t.mask % 2 = 1) (hE : Ent prog w s.heap ks es.toList) (hx : TK prog w s.heap k b) (hi0 : es[i0]? = some (hsh prog w k, .ref a0)) (h0 : TK prog w s.heap k a0) :
    ∀ (N fuel : Nat) (st : Option Probe), (∀ p, st = some p → Vp t p) → N < fuel → t.slot (advN t N (st.getD (t.probeStart (hsh prog w k)))).j = .live i0 → (∀ m, m < N → t.slot (advN t m (st.getD (t.probeStart (hsh prog w k)))).j ≠ .empty) → N < 10 * turns t.mask →
      Q (.there none) s → wpAny (model prog w) A (setSearchFrom S (.ref b) (hsh prog w k) true fuel st) Q E s := by
  intro N
  induction N using Nat.strongRecOn with
  | _ N ih =>
    intro fuel st hv hf he hn hN hQ
    cases fuel with
    | zero => exact absurd hf (Nat.not_lt_zero _)
    | succ fuel =>
      have hfit := fits_of T
      have v : Vp t (st.getD (t.probeStart (hsh prog w k))) := by
        cases st with
        | none => exact start_v (hsh prog w k)
        | some p => exact hv p rfl
      unfold setSearchFrom
      refine wpAny_bind (wpAny_setState_of ho hd hfit ?_)
      dsimp only
      have hgw : t.gaveWay = false := by unfold SetTable.gaveWay; rw [hm]; rfl
      rw [hgw]
      simp only [Bool.false_eq_true, if_false]
      unfold SetTable.probe
      rcases go_any T _ (hsh prog w k) N _ (st.getD (t.probeStart (hsh prog w k))) i0 v hN he hn with ⟨m, i, hmN, q1, q2, q3, q5⟩ | q
      · rw [q5]
        dsimp only
        have hi : i < es.size := by
          have := (Array.getElem?_eq_some_iff.mp q2).1
          rw [T.size] at this
          exact this
        obtain ⟨k', a, hc, hg, ta⟩ : ∃ k' a, (k' = k ∨ m < N) ∧ es[i]? = some (es[i].1, .ref a) ∧ TK prog w s.heap k' a := by
          by_cases hii : i = i0
          · subst hii
            refine ⟨k, a0, .inl rfl, ?_, h0⟩
            rw [hi0]
            rw [Array.getElem?_eq_getElem hi] at hi0
            rw [Option.some.inj hi0]
          · obtain ⟨k', a, _, ea, ta⟩ := hE es[i] (Array.mem_toList_iff.mpr (Array.getElem_mem hi))
            refine ⟨k', a, .inr ?_, by rw [Array.getElem?_eq_getElem hi, ← ea], ta⟩
            rcases Nat.lt_or_ge m N with z | z
            · exact z
            · have : m = N := by omega
              subst this
              rw [q1] at he
              cases he
              exact absurd rfl hii
        have rest : wpAny (model prog w) A (do
            let some (_, y) := es[i]? | unsupported "internal:set-entry"
            let equal ← holding [y] (eqBool y (.ref b))
            let (es', _, t') ← setState S
            if (true && equal) = true then return SetFound.there none
            let some same := t'.sameMemory t.moves t.mask | unsupported "set.changed-during-lookup:is-the-new-block-at-the-old-address"
            let still ← match (if same then t'.slot (advN t m (st.getD (t.probeStart (hsh prog w k)))).j else .empty) with
              | .live i' => match es'[i']? with
                | some (_, y') => do pure (if ← isSame y' y then some i' else none)
                | none => pure none
              | _ => pure none
            match still with
            | none => rule "set.search.anew"; setSearchFrom S (.ref b) (hsh prog w k) true fuel none
            | some i' => if equal then return .there (some i') else setSearchFrom S (.ref b) (hsh prog w k) true fuel (some (advN t (m + 1) (st.getD (t.probeStart (hsh prog w k)))))) Q E s := by
          rw [hg]
          dsimp only
          refine wpAny_bind (wpAny_holding (wpAny_eqBool_tuple hu ta hx ?_))
          by_cases hkk : k' = k
          · rw [decide_eq_true hkk]
            refine wpAny_bind (wpAny_setState_of ho hd hfit ?_)
            dsimp only
            rw [Bool.and_true]
            simp only [if_true]
            exact wpAny_pure hQ
          have hmN' : m < N := by
            rcases hc with z | z
            · exact absurd z hkk
            · exact z
          rw [decide_eq_false hkk]
          refine wpAny_bind (wpAny_setState_of ho hd hfit ?_)
          dsimp only
          rw [Bool.and_false]
          simp only [Bool.false_eq_true, if_false]
          have hsm : t.sameMemory t.moves t.mask = some true := by unfold SetTable.sameMemory; simp
          rw [hsm]
          dsimp only
          rw [if_pos rfl, q1]
          dsimp only
          rw [hg]
          dsimp only
          have hsame : isSame (Value.ref a) (Value.ref a) = pure true := by
            unfold isSame
            dsimp only
            rw [if_pos (by simp)]
          rw [hsame]
          refine wpAny_bind (wpAny_bind (wpAny_pure (wpAny_pure ?_)))
          rw [if_pos rfl]
          refine ih (N - (m + 1)) (by omega) fuel (some (advN t (m + 1) (st.getD (t.probeStart (hsh prog w k))))) (fun p hp => by cases hp; exact Vp.advN (m + 1) v) (by omega) ?_ ?_ (by omega) hQ
          · show t.slot (advN t (N - (m + 1)) (advN t (m + 1) (st.getD (t.probeStart (hsh prog w k))))).j = .live i0
            rw [← advN_add, show m + 1 + (N - (m + 1)) = N by omega]
            exact he
          · intro x hx'
            show t.slot (advN t x (advN t (m + 1) (st.getD (t.probeStart (hsh prog w k))))).j ≠ .empty
            rw [← advN_add]
            exact hn _ (by omega)
        by_cases hled : t.led = true
        · rw [hled]
          simp only [Bool.not_true, Bool.false_eq_true, if_false]
          exact rest
        · have hled' : t.led = false := by simpa using hled
          rw [hled']
          simp only [Bool.not_false, if_true]
          refine wpAny_bind (seen_F hx (fun v hv => ?_) ?_)
          · obtain ⟨e, he', rfl⟩ := List.mem_map.mp hv
            have hem : e ∈ es.toList := by
              have := Array.mem_toList_iff.mp he'
              rw [Array.mem_filter] at this
              exact Array.mem_toList_iff.mpr this.1
            obtain ⟨k2, a2, _, e2, t2⟩ := hE e hem
            exact ⟨k2, a2, e2, t2⟩
          · simp only [Bool.false_eq_true, if_false]
            exact rest
      · exact absurd (show (es[i0]?.map (·.1)).getD 0 = hsh prog w k by rw [hi0]; rfl) q
def SetD (prog : Program) (w : World) (h : Heap) (S : Addr) (ks : List (List Str)) (n : Nat) : Prop :=
  ∃ o es ep t, h.get? S = some o ∧ o.ExactSet ∧ o.data = .set es ep t ∧ es.size = n ∧ Tb t n ∧ ((t.mask = 7 ∧ n ≤ 4) ∨ (t.mask = 31 ∧ n ≤ 18) ∨ (t.mask = 127 ∧ n ≤ 20)) ∧ Ent prog w h ks es.toList ∧ Rise t.place ∧ Pa t es ∧ ∀ k ∈ ks, ∃ a, (hsh prog w k, Value.ref a) ∈ es.toList ∧ TK prog w h k a
theorem add_dup {S b : Addr} {ks : List (List Str)} {n : Nat} {k : List Str} {Q : Bool → Shared → Prop} (hu : A.units < cLine) (hS : SetD prog w s.heap S ks n) (hx : TK prog w s.heap k b) (hk : k ∈ ks)
    (h : Q false s) : wpAny (model prog w) A (setAddHashed S (.ref b) (hsh prog w k)) Q E s := by
  obtain ⟨o, es, ep, t, ho, hex, hd, hsz, T, hm, hE, R, hP, hA⟩ := hS
  have hfit := fits_of T
  have hfit' : t.fits es.size = true := by rw [hsz]; exact hfit
  have hodd : t.mask % 2 = 1 := by rcases hm with ⟨e, _⟩ | ⟨e, _⟩ | ⟨e, _⟩ <;> rw [e]
  obtain ⟨a0, hmem, h0⟩ := hA k hk
  obtain ⟨i0, hi0, e0⟩ := List.getElem_of_mem hmem
  have hi1 : i0 < es.size := by simpa using hi0
  have hge : es[i0]? = some (hsh prog w k, Value.ref a0) := by
    rw [← Array.getElem?_toList, List.getElem?_eq_getElem hi0, e0]
  have hpl : i0 < t.place.size := by rw [T.size, ← hsz]; exact hi1
  have hma : (t.place[i0], (hsh prog w k, Value.ref a0)) ∈ asc t es := by
    unfold asc
    refine List.mem_of_getElem? (i := i0) ?_
    rw [List.getElem?_zip_eq_some]
    exact ⟨by simp [hpl], by rw [Array.getElem?_toList]; exact hge⟩
  obtain ⟨N, h1, h2, h3⟩ := hP _ hma
  have hmk : t.mask ≤ 127 := by rcases hm with ⟨e, _⟩ | ⟨e, _⟩ | ⟨e, _⟩ <;> omega
  unfold setAddHashed setAddHashedIn
  refine wpAny_holding (wpAny_bind (wpAny_setState_of ho hd hfit' ?_))
  dsimp only
  have hbs : byScan (Value.ref b) es = false := by unfold byScan; rfl
  rw [hbs]
  simp only [Bool.false_eq_true, if_false]
  unfold setSearch
  refine wpAny_bind (search_hit (ks := ks) (a0 := a0) (i0 := i0) hu ho hd (by rw [hsz]; exact T) hodd hE hx hge h0 N 100000 none (fun p hp => by cases hp) (by unfold turns at h1; omega) ?_ ?_ h1 ?_)
  · show t.slot (advN t N (t.probeStart (hsh prog w k))).j = .live i0
    rw [pos_of, h2]
    exact slot_live R (by rw [Array.getElem?_eq_getElem hpl])
  · intro m hmN
    show t.slot (advN t m (t.probeStart (hsh prog w k))).j ≠ .empty
    rw [pos_of]
    exact (slot_ne T R).mpr (h3 m hmN)
  · exact wpAny_pure h
theorem small_line2 {n : Nat} (h : n ≤ 20) : n ≤ sizeLine := by rw [sizeLine_eq]; omega
theorem add_new {S b : Addr} {ks : List (List Str)} {n : Nat} {k : List Str} {Q : Bool → Shared → Prop} (hu : A.units < cLine) (hS : SetD prog w s.heap S ks n) (hx : TK prog w s.heap k b) (hk : k ∉ ks) (hn : n + 1 ≤ 20)
    (h : ∀ h', Heap.SameBut S s.heap h' → SetD prog w h' S (k :: ks) (n + 1) → Q true { s with heap := h' }) : wpAny (model prog w) A (setAddHashed S (.ref b) (hsh prog w k)) Q E s := by
  obtain ⟨o, es, ep, t, ho, hex, hd, hsz, T, hm, hE, R, hP, hA⟩ := hS
  have hfit := fits_of T
  have hfit' : t.fits es.size = true := by rw [hsz]; exact hfit
  have hodd : t.mask % 2 = 1 := by rcases hm with ⟨e, _⟩ | ⟨e, _⟩ | ⟨e, _⟩ <;> rw [e]
  have hroom : n + 1 ≤ t.mask := by rcases hm with ⟨e, q⟩ | ⟨e, q⟩ | ⟨e, q⟩ <;> omega
  unfold setAddHashed setAddHashedIn
  refine wpAny_holding (wpAny_bind (wpAny_setState_of ho hd hfit' ?_))
  dsimp only
  have hbs : byScan (Value.ref b) es = false := by unfold byScan; rfl
  rw [hbs]
  simp only [Bool.false_eq_true, if_false]
  unfold setSearch
  obtain ⟨N, h1, h2, h3⟩ := reach1 T (start_v (t := t) (hsh prog w k))
  have hmk : t.mask ≤ 127 := by rcases hm with ⟨e, _⟩ | ⟨e, _⟩ | ⟨e, _⟩ <;> omega
  refine wpAny_bind (search_free (ks := ks) hu ho hd (by rw [hsz]; exact T) hodd hE hx hk N 100000 none (fun p hp => by cases hp) (by unfold turns at h1; omega) h2 h3 h1 ?_)
  dsimp only
  refine wpAny_bind (wpAny_setState_of ho hd hfit' ?_)
  dsimp only
  generalize hjj : (advN t N ((none : Option Probe).getD (t.probeStart (hsh prog w k)))).j = j
  have hje : t.slot j = .empty := by rw [← hjj]; exact h2
  have hjp : pos t.mask (hsh prog w k) N = j := by rw [← pos_of]; exact hjj
  obtain ⟨R2, hpl2, hasc2⟩ := put_more T R hsz hje (hsh prog w k, Value.ref b)
  have hway : Pth t.mask (t.put j).1.place.toList (hsh prog w k) j := ⟨N, h1, hjp, fun x hx => by
    rw [hpl2]
    refine .inr ((slot_ne T R).mp ?_)
    rw [← pos_of]
    exact h3 x hx⟩
  have hP2 : Pa (t.put j).1 (SetTable.insertAt es (t.put j).2 (hsh prog w k, Value.ref b)) := fun je hje' => by
    rcases (hasc2 je).mp hje' with rfl | hq
    · exact hway
    · exact (hP je hq).mono fun x hx => (hpl2 x).mpr (.inr hx)
  have hA2 : ∀ k' ∈ k :: ks, ∃ a, (hsh prog w k', Value.ref a) ∈ (SetTable.insertAt es (t.put j).2 (hsh prog w k, Value.ref b)).toList ∧ TK prog w s.heap k' a := by
    intro k' hk'
    have hmm : ∀ e, e ∈ (SetTable.insertAt es (t.put j).2 (hsh prog w k, Value.ref b)).toList ↔ e ∈ (es.push (hsh prog w k, Value.ref b)).toList := fun e => (SetTable.insertAt_perm es (t.put j).2 (hsh prog w k, Value.ref b)).mem_iff
    rcases List.mem_cons.mp hk' with rfl | hk'
    · exact ⟨b, (hmm _).mpr (by rw [Array.toList_push]; simp), hx⟩
    · obtain ⟨a, q1, q2⟩ := hA k' hk'
      exact ⟨a, (hmm _).mpr (by rw [Array.toList_push]; exact List.mem_append_left _ q1), q2⟩
  obtain ⟨P1, P2, P3, P4, P5⟩ := put_ok T hroom j
  have go : ∀ bv : Bool, wpAny (model prog w) A (do
      storeSet S (SetTable.insertAt es (t.put j).2 (hsh prog w k, .ref b)) (if bv then (t.put j).1 else { (t.put j).1 with plain := false })
      if (!false && (if bv then (t.put j).1 else { (t.put j).1 with plain := false }).tooFull) = true then setRelay S (SetTable.grown (es.size + 1))
      return true) Q E s := by
    intro bv
    have T2 : ∃ t2, (if bv then (t.put j).1 else { (t.put j).1 with plain := false }) = t2 ∧ Tb t2 (n + 1) ∧ t2.mask = t.mask ∧ Rise t2.place ∧ Pa t2 (SetTable.insertAt es (t.put j).2 (hsh prog w k, Value.ref b)) := by
      cases bv with
      | true => exact ⟨_, rfl, P1, P3, R2, hP2⟩
      | false => exact ⟨_, rfl, ⟨P1.size, P1.dm, P1.cyc, P1.room⟩, P3, R2, hP2⟩
    obtain ⟨t2, e2, T2, M2, R2', hP2'⟩ := T2
    rw [e2]
    have hsz2 : (SetTable.insertAt es (t.put j).2 (hsh prog w k, Value.ref b)).size = n + 1 := by
      rw [insertAt_size _ _ _ (by rw [hsz]; exact P2), hsz]
    refine wpAny_bind (wpAny_storeSet_of ho hd ?_ (by rw [hsz2]; exact small_line2 hn))
    have hsb := Heap.SameBut.update s.heap S (Obj.putSet (SetTable.insertAt es (t.put j).2 (hsh prog w k, Value.ref b)) t2)
    have hg := store_get (es' := SetTable.insertAt es (t.put j).2 (hsh prog w k, Value.ref b)) (t' := t2) ho hd
    have hE2 : Ent prog w (s.heap.update S (Obj.putSet (SetTable.insertAt es (t.put j).2 (hsh prog w k, Value.ref b)) t2)) (k :: ks) (SetTable.insertAt es (t.put j).2 (hsh prog w k, Value.ref b)).toList := (hE.insert hx).keeps ho hd hsb
    by_cases hf : t2.tooFull = true
    · rw [hf]
      simp only [Bool.not_false, Bool.and_self, if_true]
      have hfl : t2.fill * 5 ≥ t2.mask * 3 := by unfold SetTable.tooFull at hf; simpa using hf
      rw [fill_eq T2, M2] at hfl
      have h5 : ∃ m', sizeAbove (SetTable.grown (n + 1)) - 1 = m' ∧ cycB m' = true ∧ n + 1 ≤ m' ∧ ¬ (sizeAbove (SetTable.grown (n + 1)) > sizeLine) ∧ ((m' = 31 ∧ n + 1 ≤ 18) ∨ (m' = 127 ∧ n + 1 ≤ 20)) := by
        rcases hm with ⟨e, q⟩ | ⟨e, q⟩ | ⟨e, q⟩
        · rw [e] at hfl
          have h4 : n = 4 := by omega
          subst h4
          exact ⟨31, by decide, cyc31, by omega, by rw [sizeLine_eq]; decide, .inl ⟨rfl, by omega⟩⟩
        · rw [e] at hfl
          have h4 : n = 18 := by omega
          subst h4
          exact ⟨127, by decide, cyc127, by omega, by rw [sizeLine_eq]; decide, .inr ⟨rfl, by omega⟩⟩
        · rw [e] at hfl
          omega
      obtain ⟨m', s1, s2, s3, s4, s5⟩ := h5
      unfold setRelay
      refine wpAny_bind (wpAny_bind (wpAny_setState_of hg rfl (by rw [hsz2]; exact fits_of T2) ?_))
      dsimp only
      rw [hsz]
      rw [if_neg s4]
      have hrl : t2.relaid ((SetTable.insertAt es (t.put j).2 (hsh prog w k, Value.ref b)).map (·.1)) (SetTable.grown (n + 1)) = laid m' t2.finger (t2.movedTo m') t2.led t2.plain ((SetTable.insertAt es (t.put j).2 (hsh prog w k, Value.ref b)).map (·.1)) := by
        unfold SetTable.relaid
        rw [s1]
      obtain ⟨t3, order, r1, r2, r3, r4, r5, r6, r7⟩ := laid_ok (finger := t2.finger) (moves := t2.movedTo m') (led := t2.led) (plain := t2.plain) s2 ((SetTable.insertAt es (t.put j).2 (hsh prog w k, Value.ref b)).map (·.1)) (by rw [Array.size_map, hsz2]; omega)
      rw [hrl, r1]
      obtain ⟨L1, L2, L3⟩ := laid_more s2 (SetTable.insertAt es (t.put j).2 (hsh prog w k, Value.ref b)) (by rw [hsz2]; omega) r1
      rw [Array.size_map, hsz2] at r6 r7
      have hperm : (order.filterMap (fun i => (SetTable.insertAt es (t.put j).2 (hsh prog w k, Value.ref b))[i]?)).toList.Perm (SetTable.insertAt es (t.put j).2 (hsh prog w k, Value.ref b)).toList := by
        rw [Array.toList_filterMap]
        refine (r7.filterMap _).trans ?_
        rw [← hsz2, range_fm]
      have hsz3 : (order.filterMap (fun i => (SetTable.insertAt es (t.put j).2 (hsh prog w k, Value.ref b))[i]?)).size = n + 1 := by
        rw [← Array.length_toList, hperm.length_eq, Array.length_toList, hsz2]
      show wpAny (model prog w) A ((if ((order.filterMap (fun i => (SetTable.insertAt es (t.put j).2 (hsh prog w k, Value.ref b))[i]?)).size != (SetTable.insertAt es (t.put j).2 (hsh prog w k, Value.ref b)).size) = true then (unsupported "internal:set-table-lost-an-element" : Sem _) else pure (order.filterMap (fun i => (SetTable.insertAt es (t.put j).2 (hsh prog w k, Value.ref b))[i]?), t3)) >>= fun x => storeSet S x.1 x.2) _ _ _
      rw [if_neg (by rw [hsz3, hsz2]; simp)]
      refine wpAny_bind (wpAny_pure ?_)
      refine wpAny_storeSet_of hg rfl ?_ (by rw [hsz3]; exact small_line2 hn)
      have hsb2 := Heap.SameBut.update (s.heap.update S (Obj.putSet (SetTable.insertAt es (t.put j).2 (hsh prog w k, Value.ref b)) t2)) S (Obj.putSet (order.filterMap (fun i => (SetTable.insertAt es (t.put j).2 (hsh prog w k, Value.ref b))[i]?)) t3)
      refine wpAny_pure (h _ (hsb.trans hsb2) ⟨_, _, _, t3, store_get hg rfl, hex, rfl, hsz3, r6, (by rw [r2]; exact .inr s5), ?_, L1, L3, fun k' hk' => ?_⟩)
      · have hE3 := hE2.keeps hg rfl hsb2
        exact fun e he => hE3 e (hperm.mem_iff.mp he)
      · obtain ⟨a, q1, q2⟩ := hA2 k' hk'
        exact ⟨a, hperm.mem_iff.mpr q1, (q2.keeps ho hd hsb).keeps hg rfl hsb2⟩
    · have hf' : t2.tooFull = false := by simpa using hf
      rw [hf']
      simp only [Bool.not_false, Bool.and_false, Bool.false_eq_true, if_false]
      have hfl : ¬ (t2.fill * 5 ≥ t2.mask * 3) := by unfold SetTable.tooFull at hf'; simpa using hf'
      rw [fill_eq T2, M2] at hfl
      refine wpAny_pure (h _ hsb ⟨_, _, _, t2, hg, hex, rfl, hsz2, T2, ?_, hE2, R2', hP2', fun k' hk' => let ⟨a, q1, q2⟩ := hA2 k' hk'; ⟨a, q1, q2.keeps ho hd hsb⟩⟩)
      rw [M2]
      rcases hm with ⟨e, q⟩ | ⟨e, q⟩ | ⟨e, q⟩
      · exact .inl ⟨e, by omega⟩
      · exact .inr (.inl ⟨e, by omega⟩)
      · exact .inr (.inr ⟨e, hn⟩)
  cases hpl : (t.put j).1.plain with
  | true =>
    simp only [if_true]
    refine wpAny_bind (byValue_any hx fun bv => ?_)
    exact go bv
  | false =>
    simp only [Bool.false_eq_true, if_false]
    refine wpAny_bind (wpAny_pure ?_)
    exact go true
end
end ST
namespace ST
open PySem PySem.SetTable PyProof.Rows
def addK {α : Type} [DecidableEq α] (acc : List α) (k : α) : List α := if k ∈ acc then acc else k :: acc
def ddk {α : Type} [DecidableEq α] (ks : List α) : List α := ks.foldl addK []
theorem addK_len {α : Type} [DecidableEq α] (acc : List α) (k : α) : (addK acc k).length ≤ acc.length + 1 := by unfold addK; split <;> simp
theorem fold_addK_len {α : Type} [DecidableEq α] : ∀ (ks acc : List α), (ks.foldl addK acc).length ≤ acc.length + ks.length
  | [], acc => Nat.le_refl _
  | k :: ks, acc => by
    have h1 := fold_addK_len ks (addK acc k)
    have h2 := addK_len acc k
    rw [List.foldl_cons, List.length_cons]
    omega
theorem ddk_le {α : Type} [DecidableEq α] (ks : List α) : (ddk ks).length ≤ ks.length := by
  have := fold_addK_len ks []
  unfold ddk
  simpa using this
theorem fold_addK_eq {α : Type} [DecidableEq α] : ∀ (ks acc : List α), (ks.foldl addK acc).length = acc.length + ks.length ↔ (ks.Nodup ∧ ∀ k ∈ ks, k ∉ acc)
  | [], acc => by simp
  | k :: ks, acc => by
    rw [List.foldl_cons, List.length_cons]
    by_cases h : k ∈ acc
    · have h1 := fold_addK_len ks acc
      have e : addK acc k = acc := by unfold addK; rw [if_pos h]
      rw [e]
      constructor
      · intro q; omega
      · intro q; exact absurd h (q.2 k List.mem_cons_self)
    · have e : addK acc k = k :: acc := by unfold addK; rw [if_neg h]
      have ih := fold_addK_eq ks (k :: acc)
      rw [e]
      rw [List.length_cons] at ih
      rw [show acc.length + (ks.length + 1) = acc.length + 1 + ks.length by omega, ih, List.nodup_cons]
      constructor
      · rintro ⟨h1, h2⟩
        refine ⟨⟨fun hm => h2 k hm List.mem_cons_self, h1⟩, fun x hx => ?_⟩
        rcases List.mem_cons.mp hx with rfl | hx
        · exact h
        · exact fun z => h2 x hx (List.mem_cons_of_mem _ z)
      · rintro ⟨⟨h1, h2⟩, h3⟩
        refine ⟨h2, fun x hx z => ?_⟩
        rcases List.mem_cons.mp z with rfl | z
        · exact h1 hx
        · exact h3 x (List.mem_cons_of_mem _ hx) z
theorem ddk_eq {α : Type} [DecidableEq α] (ks : List α) : (ddk ks).length = ks.length ↔ ks.Nodup := by
  have := fold_addK_eq ks []
  unfold ddk
  simpa using this
section
variable {prog : Program} {w : World} {A : Around} {R : Result → Shared → Prop} {I : Addr} {fp wr : List Addr} {G : Array GenState → Array GenState → Prop} {n : Nat} {P : Nat → Value → Prop} {St : Nat → Shared → Prop}
theorem SetD.moved {h h' : Heap} {S : Addr} {ks : List (List Str)} {n : Nat} (x : SetD prog w h S ks n) (hS : ∀ o, h.get? S = some o → h'.get? S = some o) (hm : ∀ k a, TK prog w h k a → TK prog w h' k a) : SetD prog w h' S ks n := by
  obtain ⟨o, es, ep, t, ho, hex, hd, hsz, T, hmk, hE, R, hP, hA⟩ := x
  exact ⟨o, es, ep, t, hS _ ho, hex, hd, hsz, T, hmk, fun e he => let ⟨k, a, h1, h2, h3⟩ := hE e he; ⟨k, a, h1, h2, hm k a h3⟩, R, hP, fun k hk => let ⟨a, q1, q2⟩ := hA k hk; ⟨a, q1, hm k a q2⟩⟩
theorem loopU (W : WalksS prog w A.in1 I fp wr G n P St) (S : Addr) (hSf : S ∉ fp) (hu : A.in1.units < cLine) (hwr : wr = [I]) (hI : ∀ i s, St i s → ∃ o vs, s.heap.get? I = some o ∧ o.data = .fields vs)
    (adr : Nat → Addr) (key : Nat → List Str) (hval : ∀ i v, P i v → v = .ref (adr i)) (hn : n ≤ 20) :
    ∀ (k i : Nat) (s : Shared), n - i = k → i ≤ n → St i s → (∀ j, j < n → TK prog w s.heap (key j) (adr j)) →
      SetD prog w s.heap S (ddk ((List.range i).map key)) (ddk ((List.range i).map key)).length →
      (∀ s', Moved (S :: wr) G s s' → SetD prog w s'.heap S (ddk ((List.range n).map key)) (ddk ((List.range n).map key)).length → R (.ok (.ret .none)) s') →
      codeAny (model prog w) A (.builtin "set.update.loop" ⟨[.ref S, .ref I], []⟩) R s := by
  have hSw : S ∉ wr := fun h => hSf (W.sub _ h)
  have hsub : ∀ b ∈ wr, b ∈ S :: wr := fun b hb => List.mem_cons_of_mem _ hb
  have notI : ∀ {i : Nat} {s : Shared} {k : List Str} {a : Addr}, St i s → TK prog w s.heap k a → a ∉ wr := fun {i s k a} hst x hm => by
    rw [hwr, List.mem_singleton] at hm
    subst hm
    obtain ⟨o', items, n, ho', hc, hd', hi⟩ := x
    obtain ⟨o, vs, ho, hd⟩ := hI _ _ hst
    rw [ho] at ho'
    cases ho'
    rw [hd] at hd'
    cases hd'
  intro k
  induction k with
  | zero =>
    intro i s hk hi hst hT hS hR
    have hin : i = n := by omega
    subst hin
    refine codeAny_builtin F.entry_set_update_loop ?_
    rw [Around.under_plainId F.plain_set_update_loop _]
    show wpAny _ A.in1 (pyNext (.ref I) >>= _) _ _ s
    refine wpAny_bind (W.done s _ _ hst fun s' hm => ?_)
    show wpAny _ A.in1 (ret Value.none) _ _ s'
    exact wpAny_pure (hR s' (hm.mono hsub) (hS.moved (fun o ho => hm.heap S _ hSw ho) fun k' a x => x.moved fun o ho => hm.heap a _ (notI hst x) ho))
  | succ k ih =>
    intro i s hk hi hst hT hS hR
    have hlt : i < n := by omega
    refine codeAny_builtin F.entry_set_update_loop ?_
    rw [Around.under_plainId F.plain_set_update_loop _]
    show wpAny _ A.in1 (pyNext (.ref I) >>= _) _ _ s
    refine wpAny_bind (W.item i s _ _ hlt hst fun v s' hP hst' hm => ?_)
    have hv := hval i v hP
    subst hv
    have hT' : ∀ j, j < n → TK prog w s'.heap (key j) (adr j) := fun j hj => (hT j hj).moved fun o ho => hm.heap _ _ (notI hst (hT j hj)) ho
    have hS' : SetD prog w s'.heap S (ddk ((List.range i).map key)) (ddk ((List.range i).map key)).length := hS.moved (fun o ho => hm.heap S _ hSw ho) fun k' a x => x.moved fun o ho => hm.heap a _ (notI hst x) ho
    show wpAny _ A.in1 (holding [Value.ref (adr i)] (setAdd S (.ref (adr i))) >>= _) _ _ s'
    refine wpAny_bind (wpAny_holding ?_)
    unfold setAdd
    refine wpAny_holding ?_
    refine wpAny_bind (wpAny_pyHash_tuple hu (hT' i hlt) ?_)
    have estep : ddk ((List.range (i + 1)).map key) = addK (ddk ((List.range i).map key)) (key i) := by
      unfold ddk
      rw [List.range_succ, List.map_append, List.foldl_append]
      rfl
    have hle : (ddk ((List.range i).map key)).length ≤ i := by
      have := ddk_le ((List.range i).map key)
      simpa using this
    by_cases hold : key i ∈ ddk ((List.range i).map key)
    · refine add_dup (s := { s' with toks := s'.toks + ((key i).length + 1) }) hu hS' (hT' i hlt) hold ?_
      have hS3 : SetD prog w s'.heap S (ddk ((List.range (i + 1)).map key)) (ddk ((List.range (i + 1)).map key)).length := by
        rw [estep]
        unfold addK
        rw [if_pos hold]
        exact hS'
      refine wpAny_pure ⟨plainId_quiet F.plain_set_update_loop _, ih (i + 1) _ (by omega) hlt (W.frame _ s' _ _ hst' (by simp) fun b hb o e => e) hT' hS3 fun s'' hm'' hS'' => ?_⟩
      exact hR s'' (Moved.trans W.gtrans ((hm.mono hsub).then_heap (by simp) fun b o hb e => e) hm'') hS''
    · refine add_new (s := { s' with toks := s'.toks + ((key i).length + 1) }) hu hS' (hT' i hlt) hold (by omega) fun h' hsb hS2 => ?_
      obtain ⟨oS, esS, epS, tS, hoS, _, hdS, _⟩ := hS'
      have hS3 : SetD prog w h' S (ddk ((List.range (i + 1)).map key)) (ddk ((List.range (i + 1)).map key)).length := by
        rw [estep]
        unfold addK
        rw [if_neg hold]
        exact hS2
      refine wpAny_pure ⟨plainId_quiet F.plain_set_update_loop _, ih (i + 1) _ (by omega) hlt (W.frame _ s' _ _ hst' (by simp) fun b hb o e => ?_) (fun j hj => (hT' j hj).keeps hoS hdS hsb) hS3 fun s'' hm'' hS'' => ?_⟩
      · rw [hsb.2 b (fun h : b = S => hSf (by rw [← h]; exact hb))]; exact e
      · refine hR s'' (Moved.trans W.gtrans ((hm.mono hsub).then_heap (by simp) fun b o hb e => ?_) hm'') hS''
        rw [hsb.2 b (fun h : b = S => hb (by rw [h]; exact List.mem_cons_self))]; exact e
end
section
variable {prog : Program} {w : World} {A : Around} {E : Value → Shared → Prop} {s : Shared}
theorem esetD_ok {h : Heap} {S : Addr} {led : Bool} (e : h.get? S = some (eset led)) : SetD prog w h S [] 0 :=
  ⟨_, #[], 0, _, e, ⟨rfl, rfl, rfl⟩, rfl, rfl, ⟨rfl, rfl, cyc7, Nat.zero_le _⟩, .inl ⟨rfl, by omega⟩, fun e he => by simp at he, List.Pairwise.nil, fun je hje => (by simp [asc, SetTable.fresh] at hje), fun k hk => (by simp at hk)⟩
set_option maxHeartbeats 3200000 in
theorem fill_U {led : Bool} {l : Addr} {items : Array Value} {key : Nat → List Str} {adr : Nat → Addr} {R : Result → Shared → Prop} (hh : A.handled = none) (hu : A.units + 8 < cLine) (hl : s.heap.IsList l items)
    (hk : ∀ i, i < items.size → items[i]? = some (.ref (adr i)) ∧ TK prog w s.heap (key i) (adr i)) (hn : items.size ≤ 20)
    (hR : ∀ (h' : Heap) (tk : Nat), SetD prog w h' s.heap.objs.size (ddk ((List.range items.size).map key)) (ddk ((List.range items.size).map key)).length → (∀ b o, b < s.heap.objs.size → s.heap.get? b = some o → h'.get? b = some o) → R (.ok (.ret .none)) { s with heap := h', toks := tk }) :
    codeAny (model prog w) A (.call (.builtin "set.__init__") ⟨[.ref s.heap.objs.size, .ref l], []⟩) R { s with heap := s.heap.push (eset led) } := by
  have hS : (s.heap.push (eset led)).get? s.heap.objs.size = some (eset led) := Heap.get?_push_size _ rfl
  have hT : Shared.TypeIs { s with heap := s.heap.push (eset led) } (.ref s.heap.objs.size) "set" := ⟨_, hS, rfl⟩
  refine codeAny_call_builtin F.called_set.init.plain F.entry_set_init (check_set_init_1 hT ?_)
  obtain ⟨ol, hol, hcl, nl, hdl⟩ := hl
  obtain ⟨ocls, odict, odata, oslots⟩ := ol
  simp only at hcl hdl
  subst hcl; subst hdl
  have hol' : (s.heap.push (eset led)).get? l = some { cls := .type "list", dict := odict, data := .seq items nl, slots := oslots } := Heap.get?_push_of_some _ hol
  have s1 := F.sub_list_set
  have s2 := F.sub_list_frozenset
  have s3 : (Value.type "list" == Value.type "dict") = false := by decide
  have hl1 : (s.heap.push (eset led)).IsList l items := ⟨_, hol', rfl, nl, rfl⟩
  unfold Builtin.«set.__init__» noKeywords Builtin.Frozenset.updateFrom
  generalize hPI : pyIter = PI
  wp_walk
  subst hPI
  refine wpAny_pyIter_list hl1 (wpAny_bind (wpAny_runValue ?_))
  have hlS : l < s.heap.objs.size := Heap.lt_size hol
  have hneI : l ≠ (s.heap.push (eset led)).objs.size := by rw [Heap.size_push]; exact Nat.ne_of_lt (Nat.lt_succ_of_lt hlS)
  have hSf : s.heap.objs.size ∉ [(s.heap.push (eset led)).objs.size, l] := by
    rw [Heap.size_push]
    simp only [List.mem_cons, List.not_mem_nil, or_false, not_or]
    exact ⟨Nat.ne_of_lt (Nat.lt_succ_self _), Nat.ne_of_gt hlS⟩
  have up : ∀ {k : List Str} {a : Addr}, TK prog w s.heap k a → TK prog w ((s.heap.push (eset led)).push { cls := .type "list_iterator", data := .fields #[.ref l, .int 0 0] }) k a := fun x => x.moved fun o e => Heap.get?_push_of_some _ (Heap.get?_push_of_some _ e)
  refine loopU ((Walks.list (by simp [hh]) _ l hneI items).toS) s.heap.objs.size hSf (by show A.units + 1 + 1 < cLine; omega) rfl (fun i s' st => by
      obtain ⟨⟨o, ho, _, hd⟩, _⟩ := st
      exact ⟨o, _, ho, hd⟩) adr key (fun i v hv => ?_) hn (items.size - 0) 0 _ (by omega) (Nat.zero_le _) ⟨⟨_, Heap.get?_push_size _ rfl, rfl, rfl⟩, (hl1.push _)⟩ (fun j hj => up (hk j hj).2) ?_ ?_
  · have hi : i < items.size := (Array.getElem?_eq_some_iff.mp hv).1
    have := (hk i hi).1
    rw [this] at hv
    exact (Option.some.inj hv).symm
  · exact esetD_ok (led := led) (Heap.get?_push_of_some _ hS)
  · intro s' hm hS'
    obtain ⟨h', g', d', tk', os'⟩ := s'
    have eg : g' = s.gens := hm.gens
    have ed : d' = s.drawn := hm.drawn
    have eo : os' = s.os := hm.os
    subst eg; subst ed; subst eo
    show wpAny _ _ _ _ _ _
    refine wpAny_pure ?_
    show wpAny _ _ (ret Value.none) _ _ _
    refine wpAny_pure (hR h' tk' hS' fun b o hb e => ?_)
    have hb1 : b ≠ s.heap.objs.size := Nat.ne_of_lt hb
    have hb2 : b ≠ (s.heap.push (eset led)).objs.size := by rw [Heap.size_push]; exact Nat.ne_of_lt (Nat.lt_succ_of_lt hb)
    exact hm.heap b o (by simp only [List.mem_cons, List.not_mem_nil, or_false, not_or]; exact ⟨hb1, hb2⟩) (Heap.get?_push_of_some _ (Heap.get?_push_of_some _ e))
set_option maxHeartbeats 3200000 in
theorem call_set_U {l : Addr} {items : Array Value} {key : Nat → List Str} {adr : Nat → Addr} {Q : Value → Shared → Prop} (hh : A.handled = none) (hu : A.units + 16 < cLine) (hl : s.heap.IsList l items)
    (hk : ∀ i, i < items.size → items[i]? = some (.ref (adr i)) ∧ TK prog w s.heap (key i) (adr i)) (hn : items.size ≤ 20)
    (h : ∀ (h' : Heap) (tk : Nat), SetD prog w h' s.heap.objs.size (ddk ((List.range items.size).map key)) (ddk ((List.range items.size).map key)).length → (∀ b o, b < s.heap.objs.size → s.heap.get? b = some o → h'.get? b = some o) → Q (.ref s.heap.objs.size) { s with heap := h', toks := tk }) :
    wpAny (model prog w) A (call (.type "set") [.ref l]) Q E s := by
  obtain ⟨c, tl, hmro⟩ := F.called_set.mro
  have hmade := F.called_set.made
  have hsub := F.called_set.sub
  refine wpAny_call (codeAny_of_tree ?_)
  show wpAny _ _ (callAny (.type "set") _) _ _ _
  refine wpAny_pure ⟨Code.quiet_builtin _ (by decide +kernel), codeAny_builtin F.entry_type_call ?_⟩
  rw [Around.under_plain (weight_type_call_type "set" [.ref l] []) rfl]
  have h1 := F.called_set.notType
  have h2 := F.called_set.canCreate
  have hct := F.typeCall_set_1 (.ref l)
  repeat (any_goals (first | assumption | wp_step))
  refine codeAny_mono (code_set_new_1 (.ref l) (E := E) (Q₁ := fun obj s₁ => ∃ led : Bool, obj = .ref s.heap.objs.size ∧ s₁ = { s with heap := s.heap.push (eset led) }) fun led => ⟨led, rfl, rfl⟩) fun r s₁ hr => ?_
  cases r with
  | error e => exact hr
  | ok fl =>
    cases fl with
    | ret obj =>
      obtain ⟨led, rfl, rfl⟩ := hr
      have hT : Shared.TypeIs { s with heap := s.heap.push (eset led) } (.ref s.heap.objs.size) "set" := ⟨_, Heap.get?_push_size _ rfl, rfl⟩
      have hli := F.called_set.init.lookup
      have hbi := F.called_set.init.bind (.ref s.heap.objs.size)
      repeat (any_goals (first | assumption | wp_step))
      refine codeAny_mono (fill_U (R := wants (fun r s₂ => r = .none ∧ ∃ h' tk, s₂ = { s with heap := h', toks := tk } ∧ SetD prog w h' s.heap.objs.size (ddk ((List.range items.size).map key)) (ddk ((List.range items.size).map key)).length ∧
          (∀ b o, b < s.heap.objs.size → s.heap.get? b = some o → h'.get? b = some o)) E) (by simp [hh]) (by show A.units + 1 + 8 < cLine; omega) hl hk hn fun h' tk q1 q2 => ⟨rfl, h', tk, rfl, q1, q2⟩) fun r₂ s₂ hr₂ => ?_
      cases r₂ with
      | error e => exact hr₂
      | ok fl₂ =>
        cases fl₂ with
        | ret r =>
          obtain ⟨rfl, h', tk, rfl, hS', hk'⟩ := hr₂
          repeat (any_goals (first | assumption | wp_step))
          exact h _ _ hS' hk'
        | _ => exact hr₂.elim
    | _ => exact hr.elim
theorem len_U {S : Addr} {ks : List (List Str)} {n : Nat} {Q : Value → Shared → Prop} (hS : SetD prog w s.heap S ks n) (hn : n ≤ 20) (h : ∀ t tk, Q (.int n t) { s with toks := tk }) : wpAny (model prog w) A (call (.builtin "len") [.ref S]) Q E s := by
  obtain ⟨o, es, ep, t, ho, hex, hd, hsz, T, hm, hE, _⟩ := hS
  subst hsz
  exact call_len_set ho hex hd (fits_of T) (Int.lt_of_le_of_lt (show ((es.size : Nat) : Int) ≤ 20 by omega) (by decide)) (h _ _)
end
end ST
namespace FD
open PySem PySem.Spec PyProof.Rows L2
def lenSetU : List Dv → Option (Rs Dv)
  | [.lst ds] => match keysOf ds with
    | some ks => if ks.length ≤ 20 then some (.ok (.int (ST.ddk ks).length)) else none
    | none => none
  | _ => none
theorem range_getD {α : Type} (ks : List α) (d : α) (n : Nat) (h : n = ks.length) : (List.range n).map (fun i => ks.getD i d) = ks := by
  subst h
  apply List.ext_getElem?
  intro i
  by_cases hi : i < ks.length
  · simp [hi]
  · simp [hi]
section
variable {X : Cx} {p p2 pos pos2 : Pos} {e : Expr} {ga : FnA}
theorem fe_lenSetU (hu : X.A.units + 64 < cLine) (hc : X.calm = true) (hg : Gl X "len") (hm : X.mg "len" = none) (hg2 : Gl X "set") (hm2 : X.mg "set" = none) (ha : FA X [e] ga)
    (he : starEach [.Call (.Name "set" p2) [e] [] pos2] X.env = (false, eval (.Call (.Name "set" p2) [e] [] pos2) X.env) :: starEach [] X.env := by kernel_rfl) (hpl : (backTo pos (starEach [] X.env)).any (·.1) = false := by kernel_rfl)
    (he2 : starEach [e] X.env = (false, eval e X.env) :: starEach [] X.env := by kernel_rfl) (hpl2 : (backTo pos2 (starEach [] X.env)).any (·.1) = false := by kernel_rfl) :
    FE X (.Call (.Name "len" p) [.Call (.Name "set" p2) [e] [] pos2] [] pos) (fB1 lenSetU ga) := ⟨fun pins s σ H Q I ⟨ρ, E, o⟩ => by
  refine wpAny_Call_Name_kw (ld_blt I hg hm PySem.boot_len ?_ (by decide) (by decide))
  refine PyProof.Rows.callWith_builtin1 ?_ he hpl
  rw [he]
  show wpAny _ _ (spliced ((false, eval (.Call (.Name "set" p2) [e] [] pos2) X.env) :: backTo pos (starEach [] X.env))) _ _ s
  refine Calls.spliced_cons ?_
  refine wpAny_Call_Name_kw (ld_blt I hg2 hm2 (u := .type "set") (by decide +kernel) ?_ (by decide) (by decide))
  refine PyProof.Rows.callWith_type1 (thn (ha.h pos2 pins s σ H _ I ⟨ρ, E, OutA.bind o fun ds vs H1 e1 rs o1 => (show ∃ ds, Reps X.K H1 ds vs ∧ Out X H1 (lenSetU ds) Q from ⟨ds, rs, o1⟩)⟩) fun us s1 ⟨vs, H1, I1, r1, ds, rs, o1⟩ => ?_) he2 hpl2
  unfold lenSetU at o1
  split at o1
  · rename_i es
    obtain ⟨v, rfl, r⟩ := reps1 rs
    obtain ⟨l, xs, rfl, hl, rx⟩ := r.lstE
    obtain ⟨u, rfl, ru⟩ := vals1 r1
    cases (show u = Value.ref l from ru)
    split at o1
    · rename_i ks hks
      split at o1
      · rename_i hnd
        obtain ⟨z, its, n, rv, hz, eh⟩ := I1.lstM hl
        obtain ⟨q1, q2⟩ := keys_at I1 hks rx rv
        have hsz : its.toArray.size = ks.length := by simp [q1]
        refine ST.call_set_U (items := its.toArray) (key := fun i => ks.getD i []) (adr := fun i => match its[i]? with | some (.ref a) => a | _ => 0) (I1.ok.hd hc) (by omega) ⟨_, eh, rfl, n, rfl⟩ (fun i hi => ?_) (by rw [hsz]; exact hnd) fun h' tk hS hkp => ?_
        · obtain ⟨a, e1, e2⟩ := q2 i (by simpa using hi)
          simp only [List.getElem?_toArray, e1]
          exact ⟨trivial, e2⟩
        · refine Calls.spliced_nil ?_
          rw [range_getD ks [] _ hsz] at hS
          refine ST.len_U hS (Nat.le_trans (ST.ddk_le ks) hnd) fun t tk2 => ⟨.int ((ST.ddk ks).length : Nat), H1, ?_, ⟨t, rfl⟩, o1 _ H1 (.refl H1) rfl⟩
          exact I1.kept (t' := tk2) fun b u q => hkp b u (Heap.lt_size q) q
      · exact o1.elim
    · exact o1.elim
  · exact o1.elim⟩
end
end FD
namespace FD
open PySem PySem.Spec PyProof.Rows L2
section
variable {prog : Program} {w : World} {A : Around} {E : Value → Shared → Prop} {s : Shared}
end
section
variable {prog : Program} {w : World} {A : Around} {E : Value → Shared → Prop} {s : Shared}
end
structure ZMt (z TI TO i1 i2 a b : Addr) (i : Nat) (h : Heap) : Prop where
  z : IsZip h z TI TO .none
  ti : IsPair h TI (.ref i1) (.ref i2)
  to : ∃ p q, IsPair h TO p q
  j1 : h.IsTupleIter i1 a i
  j2 : h.IsListIter i2 b i
end FD
namespace FD
open PySem PySem.Spec PyProof.Rows L2
def tC (X : Cx) (i : Nat) (fc : FnE) : TS := fun D σ H => ∃ ρ, Envs X.K H σ ρ ∧ match fc ρ with
  | none => False
  | some (.exc c) => XW X c H
  | some (.ok d) => ∃ ys, d = .lst ys ∧ ∀ H5 p vs, Same H H5 → H5 p = none → Reps X.K H5 ys vs → D.nx (σ.set i (some (.ref p))) (upd H5 p (.lst vs))
theorem ps_setC {X : Cx} {tg elt iter : Expr} {ifs : List Expr} {scope : Scope} {pos : Pos} {src : FnA} {tst : Option FnB} {fe : FnE} {b : Dv → Ev → Option Ev} {y : Str} {py spos : Pos} (i : Nat) (hnd : X.N.Nodup) (hiy : X.N[i]? = some y) (hxy : Loc X.env.scope y) (hfy : X.fn y = true ∨ X.env.scope.names.lookup y = some .local)
    (osc : Scope) (N ns : List Str) (js : List Nat) (cs : List (Str × Nat)) (hosc : X.env.scope = osc) (hN : X.N = N) (ok : CompOkG osc scope cs N) (hcl : closureFor scope X.env = pure (clOf scope.names X.env [])) (hc : X.calm = true)
    (hback : ∀ ρ d ρ', b d (capG ns.length cs ρ) = some ρ' → fgt js ρ' = capG ns.length cs ρ)
    (hi : FIG X tg iter src) (htg : ∀ C s H fp, FG (compCx X (ns ++ cs.map (·.1)) scope C s H fp) tg b) (helt : ∀ C s H fp, FE (compCx X (ns ++ cs.map (·.1)) scope C s H fp) elt fe) (hifs : ∀ C s H fp, FIfs (compCx X (ns ++ cs.map (·.1)) scope C s H fp) ifs tst)
    (hsw : swapsWith (.ListComp elt [⟨tg, iter, ifs, 0⟩] scope pos) (some (.Name y py)) spos.line X.env = pure true := by kernel_rfl)
    (hs : ∀ x, foldedSetIterable iter X.env x = pure x := by intro _; kernel_rfl) : PS X (.Assign [.Name y py] (.ListComp elt [⟨tg, iter, ifs, 0⟩] scope pos) spos) (tC X i (fCompG ns.length cs src b tst fe)) := by
  subst hosc hN
  intro pins s σ H D0 I h
  obtain ⟨ρ, E, o⟩ := h
  match ho : fCompG ns.length cs src b tst fe ρ with
  | none => rw [ho] at o; exact o.elim
  | some r =>
    rw [ho] at o
    have key : OutG X H (src ρ) fun J H' => ∃ ds ys, Same H H' ∧ WkG X.K J ds H' ∧ ds.length ≤ 100000 ∧ ys.length ≤ 100000 ∧ mapG b tst fe (capG ns.length cs ρ) ds = some ys ∧ (∀ H5 p vs, Same H' H5 → H5 p = none → Reps X.K H5 ys vs → D0.nx (σ.set i (some (.ref p))) (upd H5 p (.lst vs))) := by
      rcases keyG ho with ⟨c, e1, e2⟩ | ⟨ds, ys, e1, e2, l1, l2, e3⟩
      · subst e2; rw [e1]; exact o
      · subst e3; rw [e1]; obtain ⟨ys', ey, o⟩ := o; cases ey; exact fun J H' e wk => ⟨ds, ys, e, wk, l1, l2, e2, fun H5 p vs e3 hp r => o H5 p vs (e.trans e3) hp r⟩
    rw [exec_Assign_Name_used _ _ _ _ hsw]
    refine wpAny_bind (wpAny_standAt (wpAny_bind ?_))
    show wpAny _ X.A (do let _ ← comprehension (.ListComp elt [⟨tg, iter, ifs, 0⟩] scope pos) scope X.env _ (newList []) false (eval iter X.env) (some (assign (.Name y py) X.env))) _ _ s
    refine wpAny_bind (wpAny_mono (wpAny_comprehension_free (use := some (assign (.Name y py) X.env)) (Q := fun _ s' => SP X pins D0 .next s') rfl hs hcl ok.kind ok.names
      (thn (hi.h pins s σ H _ I ⟨ρ, E, key⟩) fun v s1 h1 => thn h1 fun itv s2 h2 => ?_)) (fun _ s' hq => wpAny_pure (wpAny_pure hq)) fun _ _ e => e)
    obtain ⟨it, fp, tn, J, H2, e, I2, T, st2, f2, ds, ys, e12, wk, hdl, hyl, hm, hQ⟩ := h2
    subst e
    refine comp_core cs ok hc htg helt hifs hback (E.mono e12) I2 T st2 f2 wk hdl hyl hm (RR := fun acc C => compPost (model X.prog X.w) X.A X.xe (some (assign (.Name y py) X.env)) (fun _ s' => SP X pins D0 .next s') acc C) fun D C s6 H5 vs m6 I6 D5 e5 r5 n6 C6 CD hC => ?_
    have Cn : (upd H5 D (.lst vs)) C = none := by rw [upd_ne CD]; exact C6
    have FC := I2.fpOk hC Cn
    obtain ⟨oC, es, ep, hoC, hdC, rC⟩ := id n6
    have I6p := I6.pinned (fp := [C]) (fun b hb => by have e : b = C := by simpa using hb
                                                      subst e; exact FC) (fun b hb => by
      have e : b = C := by simpa using hb
      subst e
      exact ⟨oC, hoC, fun v z => by rw [hdC] at z; cases z⟩)
    refine thn (pg_name hnd hiy hxy hfy _ s6 σ _ (.ref D) (.ref D) (fun σ' H' => σ' = σ.set i (some (.ref D)) ∧ H' = upd H5 D (.lst vs)) I6p rfl ⟨rfl, rfl⟩) fun _ s8 ⟨σ8, H8, I8, e1, e2⟩ => ?_
    subst e1 e2
    have hC8 := (I8.pin (C, oC) (List.mem_append_right _ (List.mem_append_right _ (mem_pinsAt (by simp) hoC)))).1
    refine ⟨m6, ⟨oC, es, ep, hC8, hdC, rC⟩, fun h9 sb9 => ?_⟩
    have I8' : Inv X pins (σ.set i (some (.ref D))) (upd H5 D (.lst vs)) s8 := I8.unpinned
    obtain ⟨q0, q1, q2, q3, q4, q5⟩ := FC
    have I9 : Inv X pins (σ.set i (some (.ref D))) (upd H5 D (.lst vs)) { s8 with heap := h9 } := I8'.turned (t' := s8.toks) (fun b o hb e => sb9.extBut b o hb e) q0 q1 q3 q4 q5
    exact ⟨_, _, I9, hQ H5 D vs e5 D5 r5⟩
def liftD (a : Addr) (xs : List V) (D : Ends) : Ends := ⟨fun σ H => H a = none → D.nx σ (upd H a (.lst xs)), fun v H => H a = none → D.rt v (upd H a (.lst xs)), fun σ H => H a = none → D.bk σ (upd H a (.lst xs)), fun σ H => H a = none → D.ct σ (upd H a (.lst xs))⟩
def liftS (t : TS) : TS := fun D σ Hf => ∃ H a xs, Hf = upd H a (.lst xs) ∧ H a = none ∧ t (liftD a xs D) σ H
theorem ps_lift {X : Cx} {st : Stmt} (hex : X.ex = []) {t : TS} (h : PS X st t) : PS X st (liftS t) := by
  intro pins s σ Hf D I ⟨H, a, xs, e1, ha, q⟩
  subst e1
  obtain ⟨its, n, rv, hz, h0, hp, I'⟩ := Inv.untrack I ha hex
  refine thn (h _ s σ H _ I' q) fun f s' hs => ?_
  cases f with
  | next =>
    obtain ⟨σ', H', I2, q2⟩ := hs
    obtain ⟨ha', I3⟩ := Inv.retrack I2 rv hz h0 hp
    exact ⟨σ', _, I3, q2 ha'⟩
  | brk =>
    obtain ⟨σ', H', I2, q2⟩ := hs
    obtain ⟨ha', I3⟩ := Inv.retrack I2 rv hz h0 hp
    exact ⟨σ', _, I3, q2 ha'⟩
  | cont =>
    obtain ⟨σ', H', I2, q2⟩ := hs
    obtain ⟨ha', I3⟩ := Inv.retrack I2 rv hz h0 hp
    exact ⟨σ', _, I3, q2 ha'⟩
  | ret u =>
    obtain ⟨v, σ', H', I2, r, q2⟩ := hs
    obtain ⟨ha', I3⟩ := Inv.retrack I2 rv hz h0 hp
    exact ⟨v, σ', _, I3, r, q2 ha'⟩
def fOwnC (i : Nat) (fc : FnE) (f : FnO2) : FnS := fun ρ => bndS (fc ρ) fun d => match d with
  | .lst ds => (match f (ρ.set i none) ds with
    | some (.nx ρ' ds') => some (.nx (ρ'.set i (some (.lst ds'))))
    | some (.rt d) => some (.rt d)
    | none => none)
  | _ => none
section
variable {X : Cx} {i : Nat} {st : Stmt} {sts : List Stmt} {f : FnO2} {fc : FnE}
theorem fss_ownC {x : Str} (hi : X.N[i]? = some x) (h1 : PS X st (tC X i fc)) (hr : FOs X i sts f) : FSs X (st :: sts) (fOwnC i fc f) := ⟨fun pins s σ H D I ⟨ρ, E, o⟩ => by
  refine pss_cons h1 hr.h pins s σ H D I ⟨ρ, E, ?_⟩
  unfold fOwnC at o
  match hgr : fc ρ with
  | none => rw [hgr] at o; exact o.elim
  | some (.exc _) => rw [hgr] at o; exact o
  | some (.ok d) =>
    rw [hgr] at o
    cases d with
    | lst ds =>
      have o2 : OutS X H (match f (ρ.set i none) ds with
        | some (.nx ρ' ds') => some (.nx (ρ'.set i (some (.lst ds'))))
        | some (.rt d) => some (.rt d)
        | none => none) D := o
      refine ⟨ds, rfl, fun H1 p vs e1 hp rs => ?_⟩
      have hil : i < σ.length := by rw [I.len]; exact (List.getElem?_eq_some_iff.mp hi).1
      refine ⟨H1, p, vs, ρ.set i none, ds, rfl, hp, List.getElem?_set_self hil, ?_, rs, ?_⟩
      · have E1 := (E.mono e1).fgt1 i
        refine ⟨by rw [List.length_set]; exact E1.len, fun j d hj => ?_⟩
        by_cases hij : i = j
        · subst hij
          by_cases hl2 : i < ρ.length
          · rw [List.getElem?_set_self hl2] at hj; cases hj
          · rw [List.getElem?_eq_none (by rw [List.length_set]; omega)] at hj; cases hj
        · obtain ⟨v, q1, q2⟩ := E1.at' j d hj
          exact ⟨v, by rw [List.getElem?_set_ne hij]; exact q1, q2⟩
      · match hfr : f (ρ.set i none) ds with
        | none => rw [hfr] at o2; exact o2.elim
        | some (.rt d) => rw [hfr] at o2; exact fun v H' e' r' => o2 v H' (e1.trans e') r'
        | some (.nx ρ' ds') =>
          rw [hfr] at o2
          exact fun σ' H' xs' e' ha' hi' E' r' => o2 σ' _ ((e1.trans e').trans (same_full ha')) (envs_full ha' hi' E' r')
    | _ => exact (show False from o).elim⟩
theorem fo_setC (hex : X.ex = []) (j : Nat) (hij : i ≠ j) (h1 : PS X st (tC X j fc)) (hl : ∀ ρ d, fc ρ = some (.ok d) → ∃ ys, d = .lst ys) : FO1 X i st (oSet j fc) := ⟨fun pins s σ Hf D I ⟨H, a, xs, ρ, ds, e1, ha, hia, E, r, o⟩ => by
  refine ps_lift hex h1 pins s σ Hf D I ⟨H, a, xs, e1, ha, ρ, E, ?_⟩
  unfold oSet at o
  match hfe : fc ρ with
  | none => rw [hfe] at o; exact o.elim
  | some (.exc _) => rw [hfe] at o; exact o.elim
  | some (.ok d) =>
    rw [hfe] at o
    obtain ⟨ys, rfl⟩ := hl ρ d hfe
    refine ⟨ys, rfl, fun H5 p vs e5 hp rs ha' => ?_⟩
    have e6 : Same H (upd H5 p (.lst vs)) := e5.trans (same_new hp _)
    exact o _ _ xs e6 ha' (by rw [List.getElem?_set_ne (Ne.symm hij)]; exact hia) ((E.mono e6).set ⟨p, vs, rfl, upd_same, Reps.mono (same_new hp _) _ _ rs⟩) (Reps.mono e6 _ _ r)⟩
theorem compG_lst {n : Nat} {cs : List (Str × Nat)} {src : FnA} {b : Dv → Ev → Option Ev} {tst : Option FnB} {fe : FnE} (ρ : Ev) (d : Dv) (h : fCompG n cs src b tst fe ρ = some (.ok d)) : ∃ ys, d = .lst ys := by
  rcases keyG h with ⟨c, e1, e2⟩ | ⟨ds, ys, e1, e2, l1, l2, e3⟩
  · cases e2
  · cases e3; exact ⟨ys, rfl⟩
end
end FD
namespace FD
open PySem PySem.Spec PyProof.Rows L2
def insB {α : Type} (le : α → α → Bool) (x : α) : List α → List α
  | [] => [x]
  | y :: l => if le x y then x :: y :: l else y :: insB le x l
def isortB {α : Type} (le : α → α → Bool) : List α → List α
  | [] => []
  | x :: l => insB le x (isortB le l)
theorem insB_perm {α : Type} (le : α → α → Bool) (x : α) : ∀ l : List α, (insB le x l).Perm (x :: l)
  | [] => .refl _
  | y :: l => by
    unfold insB
    split
    · exact .refl _
    · exact ((insB_perm le x l).cons y).trans (List.Perm.swap ..)
theorem isortB_perm {α : Type} (le : α → α → Bool) : ∀ l : List α, (isortB le l).Perm l
  | [] => .refl _
  | x :: l => (insB_perm le x _).trans ((isortB_perm le l).cons x)
structure Ord3 {α : Type} (le : α → α → Bool) : Prop where
  t : ∀ a b, le a b = false → le b a = true
  tr : ∀ a b c, le a b = true → le b c = true → le a c = true
  an : ∀ a b, le a b = true → le b a = true → a = b
theorem insB_sorted {α : Type} {le : α → α → Bool} (o : Ord3 le) (x : α) : ∀ l : List α, l.Pairwise (fun a b => le a b = true) → (insB le x l).Pairwise (fun a b => le a b = true)
  | [], _ => by simp [insB]
  | y :: l, h => by
    unfold insB
    rw [List.pairwise_cons] at h
    split
    · rename_i hc
      rw [List.pairwise_cons, List.pairwise_cons]
      refine ⟨fun z hz => ?_, h⟩
      rcases List.mem_cons.mp hz with rfl | hz
      · exact hc
      · exact o.tr _ _ _ hc (h.1 z hz)
    · rename_i hc
      rw [List.pairwise_cons]
      refine ⟨fun z hz => ?_, insB_sorted o x l h.2⟩
      rcases List.mem_cons.mp ((insB_perm le x l).mem_iff.mp hz) with rfl | hz
      · exact o.t _ _ (by simpa using hc)
      · exact h.1 z hz
theorem isortB_sorted {α : Type} {le : α → α → Bool} (o : Ord3 le) : ∀ l : List α, (isortB le l).Pairwise (fun a b => le a b = true)
  | [] => List.Pairwise.nil
  | x :: l => insB_sorted o x _ (isortB_sorted o l)
theorem sorted_uniq {α : Type} {le : α → α → Bool} (o : Ord3 le) : ∀ {l m : List α}, l.Perm m → l.Pairwise (fun a b => le a b = true) → m.Pairwise (fun a b => le a b = true) → l = m
  | [], m, hp, _, _ => (List.Perm.nil_eq hp)
  | x :: l, [], hp, _, _ => by simpa using hp.length_eq
  | x :: l, y :: m, hp, h1, h2 => by
    rw [List.pairwise_cons] at h1 h2
    have e : x = y := by
      have hx : x ∈ y :: m := hp.mem_iff.mp List.mem_cons_self
      have hy : y ∈ x :: l := hp.mem_iff.mpr List.mem_cons_self
      rcases List.mem_cons.mp hx with e | hx
      · exact e
      · rcases List.mem_cons.mp hy with e | hy
        · exact e.symm
        · exact o.an _ _ (h1.1 y hy) (h2.1 x hx)
    subst e
    rw [sorted_uniq o (hp.cons_inv) h1.2 h2.2]
def leI (a b : Int) : Bool := decide (a ≤ b)
def leS (a b : Str) : Bool := !decide (b.cps.toList < a.cps.toList)
theorem ordI : Ord3 leI := ⟨fun a b h => by simp [leI] at *; omega, fun a b c h h' => by simp [leI] at *; omega, fun a b h h' => by simp [leI] at *; omega⟩
theorem ordS : Ord3 leS where
  t := fun a b h => by
    simp only [leS, Bool.not_eq_false', decide_eq_true_eq] at h
    simp only [leS, Bool.not_eq_true', decide_eq_false_iff_not]
    exact fun h' => List.lt_irrefl _ (List.lt_trans h h')
  tr := fun a b c h h' => by
    simp only [leS, Bool.not_eq_true', decide_eq_false_iff_not, List.not_lt] at *
    exact List.le_trans h h'
  an := fun a b h h' => by
    simp only [leS, Bool.not_eq_true', decide_eq_false_iff_not, List.not_lt] at *
    have e : a.cps.toList = b.cps.toList := List.le_antisymm h h'
    obtain ⟨⟨a⟩⟩ := a; obtain ⟨⟨b⟩⟩ := b
    simp at e
    rw [e]
def intsOf : List Dv → Option (List Int)
  | [] => some []
  | .int i :: r => (intsOf r).map (i :: ·)
  | _ => none
def sortD : List Dv → Option (Rs Dv)
  | [.lst ds] => match intsOf ds with
    | some ns => if ns.length < 64 then some (.ok (.lst ((isortB leI ns).map Dv.int))) else none
    | none => match strsOf ds with
      | some ss => if ss.length < 64 then some (.ok (.lst ((isortB leS ss).map Dv.str))) else none
      | none => none
  | _ => none
section
variable {X : Cx} {pins : List (Addr × Obj)} {σ : L2.St} {H : Hp} {s : Shared}
theorem ints_are {K : PySem.W.Frag} : ∀ {ds : List Dv} {ns : List Int} {ys : List V} {its : List Value}, intsOf ds = some ns → Reps K H ds ys → Vals ys its → IntsAre its ns
  | [], ns, ys, its, h, r, v => by
    cases h
    cases (show ys = [] from r)
    cases v
    exact .nil
  | .int i :: ds, ns, ys, its, h, r, v => by
    obtain ⟨y, us, rfl, r1, r2⟩ : ∃ v us, ys = v :: us ∧ Rep K H (.int i) v ∧ Reps K H ds us := r
    cases (show y = .int i from r1)
    obtain ⟨k', h1, rfl⟩ := Option.map_eq_some_iff.mp (show (intsOf ds).map (i :: ·) = some ns from h)
    cases v with
    | cons v1 v2 =>
      obtain ⟨t, rfl⟩ := v1
      exact .cons i t (ints_are h1 r2 v2)
  | .non :: ds, _, _, _, h, _, _ => by cases h
  | .bl _ :: ds, _, _, _, h, _, _ => by cases h
  | .str _ :: ds, _, _, _, h, _, _ => by cases h
  | .tup _ :: ds, _, _, _, h, _, _ => by cases h
  | .lst _ :: ds, _, _, _, h, _, _ => by cases h
  | .scr _ :: ds, _, _, _, h, _, _ => by cases h
  | .exn _ :: ds, _, _, _, h, _, _ => by cases h
theorem strs_are {K : PySem.W.Frag} : ∀ {ds : List Dv} {ns : List Str} {ys : List V} {its : List Value}, strsOf ds = some ns → Reps K H ds ys → Vals ys its → StrsAre its ns
  | [], ns, ys, its, h, r, v => by
    cases h
    cases (show ys = [] from r)
    cases v
    exact .nil
  | .str i :: ds, ns, ys, its, h, r, v => by
    obtain ⟨y, us, rfl, r1, r2⟩ : ∃ v us, ys = v :: us ∧ Rep K H (.str i) v ∧ Reps K H ds us := r
    cases (show y = .str i from r1)
    obtain ⟨k', h1, rfl⟩ := Option.map_eq_some_iff.mp (show (strsOf ds).map (i :: ·) = some ns from h)
    cases v with
    | cons v1 v2 =>
      obtain ⟨t, rfl⟩ := v1
      exact .cons i t (strs_are h1 r2 v2)
  | .non :: ds, _, _, _, h, _, _ => by cases h
  | .bl _ :: ds, _, _, _, h, _, _ => by cases h
  | .int _ :: ds, _, _, _, h, _, _ => by cases h
  | .tup _ :: ds, _, _, _, h, _, _ => by cases h
  | .lst _ :: ds, _, _, _, h, _, _ => by cases h
  | .scr _ :: ds, _, _, _, h, _, _ => by cases h
  | .exn _ :: ds, _, _, _, h, _, _ => by cases h
theorem vals_ints : ∀ {its : List Value} {ns : List Int}, IntsAre its ns → Vals (ns.map V.int) its
  | _, _, .nil => .nil
  | _, _, .cons n t h => .cons ⟨t, rfl⟩ (vals_ints h)
theorem vals_strs2 : ∀ {its : List Value} {ns : List Str}, StrsAre its ns → Vals (ns.map V.str) its
  | _, _, .nil => .nil
  | _, _, .cons n t h => .cons ⟨t, rfl⟩ (vals_strs2 h)
theorem reps_ints {K : PySem.W.Frag} (H : Hp) : ∀ ns : List Int, Reps K H (ns.map Dv.int) (ns.map V.int)
  | [] => rfl
  | n :: ns => ⟨_, _, rfl, rfl, reps_ints H ns⟩
theorem reps_strs2 {K : PySem.W.Frag} (H : Hp) : ∀ ns : List Str, Reps K H (ns.map Dv.str) (ns.map V.str)
  | [] => rfl
  | n :: ns => ⟨_, _, rfl, rfl, reps_strs2 H ns⟩
theorem rising_pw : ∀ (p : Str) (l : List Str), risingS p l = true → (p :: l).Pairwise (fun a b => leS a b = true)
  | p, [], _ => by simp
  | p, x :: r, h => by
    have h' : (!ltCps x.cps.toList p.cps.toList) = true ∧ risingS x r = true := by simpa [risingS] using h
    have ih := rising_pw x r h'.2
    have hx : leS p x = true := by
      unfold leS
      rw [← ltCps_eq]
      exact h'.1
    rw [List.pairwise_cons]
    refine ⟨fun z hz => ?_, ih⟩
    rw [List.pairwise_cons] at ih
    rcases List.mem_cons.mp hz with rfl | hz
    · exact hx
    · exact ordS.tr _ _ _ hx (ih.1 z hz)
theorem sortedS_pw (l : List Str) (h : sortedS l = true) : l.Pairwise (fun a b => leS a b = true) := by
  cases l with
  | nil => exact .nil
  | cons x r => exact rising_pw x r h
theorem line64 {n : Nat} (h : n < 64) : n ≤ sizeLine := by
  have : sizeLine = 16777216 := by decide
  omega
theorem call_sort : CallR X (.builtin "sorted") (fun xs H Q => ∃ a ws ds, xs = [.ref a] ∧ H a = some (.lst ws) ∧ Reps X.K H ds ws ∧
    ((∃ ns, intsOf ds = some ns ∧ ns.length < 64 ∧ ∀ l, H l = none → Q (.ref l) (upd H l (.lst ((isortB leI ns).map V.int)))) ∨
     (∃ ns, strsOf ds = some ns ∧ ns.length < 64 ∧ ∀ l, H l = none → Q (.ref l) (upd H l (.lst ((isortB leS ns).map V.str)))))) := by
  intro pins s σ H xs us Q I r h
  obtain ⟨a, ws, ds, rfl, h1, h2, h3⟩ := h
  obtain ⟨u, rfl, ru⟩ := vals1 r
  cases ru
  obtain ⟨z, its, n, rv, hl, e⟩ := I.lstM h1
  rcases h3 with ⟨ns, hi, hlen, q⟩ | ⟨ns, hi, hlen, q⟩
  · have hI := ints_are hi h2 rv
    have hn := hI.length
    refine sorted_ints ⟨_, e, rfl, n, rfl⟩ hI (by omega) fun out ns' a1 a2 a3 => ?_
    have es : ns' = isortB leI ns := sorted_uniq ordI (a2.trans (isortB_perm leI ns).symm) (a3.imp fun h => by simpa [leI] using h) (isortB_sorted ordI ns)
    subst es
    obtain ⟨ep, he⟩ := sortedAll_at s.heap its out
    refine ⟨.ref (s.heap.objs.size + 1), _, I.laid (t' := s.toks) (o := .lst ((isortB leI ns).map V.int)) (fun b ob q => sortedAll_old q) (Nat.le_succ _) ?_, rfl, q _ (I.hok.fresh (Nat.le_succ _))⟩
    exact ⟨line64 (by rw [List.length_map, (isortB_perm leI ns).length_eq]; exact hlen), out.toList, ep, vals_ints a1, by simpa [seqObj] using he⟩
  · have hI := strs_are hi h2 rv
    have hn : its.length = ns.length := by
      have : ∀ {vs : List Value} {ss : List Str}, StrsAre vs ss → vs.length = ss.length := fun h => by
        induction h with
        | nil => rfl
        | cons _ _ _ ih => simp [ih]
      exact this hI
    refine sorted_strs ⟨_, e, rfl, n, rfl⟩ hI (by omega) fun out ns' a1 a2 a3 => ?_
    have es : ns' = isortB leS ns := sorted_uniq ordS (a2.trans (isortB_perm leS ns).symm) (sortedS_pw _ a3) (isortB_sorted ordS ns)
    subst es
    obtain ⟨ep, he⟩ := sortedAll_at s.heap its out
    refine ⟨.ref (s.heap.objs.size + 1), _, I.laid (t' := s.toks) (o := .lst ((isortB leS ns).map V.str)) (fun b ob q => sortedAll_old q) (Nat.le_succ _) ?_, rfl, q _ (I.hok.fresh (Nat.le_succ _))⟩
    exact ⟨line64 (by rw [List.length_map, (isortB_perm leS ns).length_eq]; exact hlen), out.toList, ep, vals_strs2 a1, by simpa [seqObj] using he⟩
end
section
variable {X : Cx} {p pos : Pos} {e : Expr} {es : List Expr} {ga : FnA}
theorem fe_sorted (hg : Gl X "sorted") (hm : X.mg "sorted" = none) (ha : FA X (e :: es) ga) (he : starEach (e :: es) X.env = (false, eval e X.env) :: starEach es X.env := by kernel_rfl) (hpl : (backTo pos (starEach es X.env)).any (·.1) = false := by kernel_rfl) : FE X (.Call (.Name "sorted" p) (e :: es) [] pos) (fB1 sortD ga) :=
  fe_of (pe_callB call_sort hg hm (by decide +kernel) ha.h (by decide) (by decide) he hpl) fun σ H Q ρ E o => ⟨ρ, E, OutA.bind o fun ds vs H1 e1 rs o1 => by
    unfold sortD at o1
    split at o1
    · rename_i xs
      obtain ⟨v, rfl, r⟩ := reps1 rs
      obtain ⟨a, ws, rfl, h1, h2⟩ := r.lstE
      split at o1
      · rename_i ns hb
        split at o1
        · rename_i hl
          exact ⟨a, ws, xs, rfl, h1, h2, .inl ⟨ns, hb, hl, fun l hl' => o1 _ _ (same_new hl' _) ⟨l, _, rfl, upd_same, reps_ints _ _⟩⟩⟩
        · exact o1.elim
      · split at o1
        · rename_i ns hb
          split at o1
          · rename_i hl
            exact ⟨a, ws, xs, rfl, h1, h2, .inr ⟨ns, hb, hl, fun l hl' => o1 _ _ (same_new hl' _) ⟨l, _, rfl, upd_same, reps_strs2 _ _⟩⟩⟩
          · exact o1.elim
        · exact o1.elim
    · exact o1.elim⟩
end
def mxL : Int → List Int → Int
  | m, [] => m
  | m, n :: l => mxL (if n > m then n else m) l
theorem mxL_ge : ∀ (l : List Int) (m : Int), m ≤ mxL m l ∧ (∀ a ∈ l, a ≤ mxL m l) ∧ (mxL m l = m ∨ mxL m l ∈ l)
  | [], m => ⟨Int.le_refl _, by simp, .inl rfl⟩
  | n :: l, m => by
    obtain ⟨h1, h2, h3⟩ := mxL_ge l (if n > m then n else m)
    have e : mxL m (n :: l) = mxL (if n > m then n else m) l := rfl
    rw [e]
    generalize hM : mxL (if n > m then n else m) l = M at *
    by_cases hc : n > m
    · rw [if_pos hc] at h1 h3
      refine ⟨by omega, fun a ha => ?_, ?_⟩
      · rcases List.mem_cons.mp ha with rfl | ha
        · exact h1
        · exact h2 a ha
      · rcases h3 with h3 | h3
        · exact .inr (by rw [h3]; exact List.mem_cons_self)
        · exact .inr (List.mem_cons_of_mem _ h3)
    · rw [if_neg hc] at h1 h3
      refine ⟨h1, fun a ha => ?_, ?_⟩
      · rcases List.mem_cons.mp ha with rfl | ha
        · omega
        · exact h2 a ha
      · rcases h3 with h3 | h3
        · exact .inl h3
        · exact .inr (List.mem_cons_of_mem _ h3)
theorem mx_uniq {n : Int} {l : List Int} {M : Int} (h1 : M ∈ n :: l) (h2 : ∀ a ∈ n :: l, a ≤ M) : M = mxL n l := by
  obtain ⟨g1, g2, g3⟩ := mxL_ge l n
  have ge : mxL n l ≤ M := by
    rcases g3 with g3 | g3
    · rw [g3]; exact h2 n List.mem_cons_self
    · exact h2 _ (List.mem_cons_of_mem _ g3)
  have le : M ≤ mxL n l := by
    rcases List.mem_cons.mp h1 with rfl | h1
    · exact g1
    · exact g2 M h1
  omega
def maxL : List Dv → Option (Rs Dv)
  | [.lst ds] => match intsOf ds with
    | some (n :: ns) => some (.ok (.int (mxL n ns)))
    | _ => none
  | _ => none
section
variable {X : Cx} {p pos : Pos} {e : Expr} {es : List Expr} {ga : FnA}
theorem call_maxL : CallR X (.builtin "max") (fun xs H Q => ∃ a ws ds n ns, xs = [.ref a] ∧ H a = some (.lst ws) ∧ Reps X.K H ds ws ∧ intsOf ds = some (n :: ns) ∧ X.calm = true ∧ Q (.int (mxL n ns)) H) := by
  intro pins s σ H xs us Q I r h
  obtain ⟨a, ws, ds, n, ns, rfl, h1, h2, hi, hc, q⟩ := h
  obtain ⟨u, rfl, ru⟩ := vals1 r
  cases ru
  obtain ⟨z, its, ep, rv, hl, e⟩ := I.lstM h1
  have hI := ints_are hi h2 rv
  obtain ⟨ys, ey⟩ := hI.allInts.items
  have hns : n :: ns = ys.toList.map (·.1) := by rw [← hI.numsOf, ← nums_intItems, ← ey]
  have hsz : 0 < ys.size := by
    have := congrArg List.length hns
    simp at this
    omega
  have hL : s.heap.IsList a (intItems ys) := by
    rw [← ey]
    exact ⟨_, e, rfl, ep, rfl⟩
  refine max_intList (I.ok.hd hc) hL hsz fun v h' tk hv hk => ?_
  obtain ⟨t, rfl⟩ := intItems_at hv
  obtain ⟨g1, g2⟩ := argBest_gt (numAt ys) (ys.size - 1)
  have hM : numAt ys (argBest (fun i j => decide (numAt ys i > numAt ys j)) (ys.size - 1)) = mxL n ns := by
    refine mx_uniq ?_ fun b hb => ?_
    · rw [hns, numAt_eq]; exact getD_mem (by rw [List.length_map, Array.length_toList]; omega)
    · rw [hns] at hb
      obtain ⟨j, hj, rfl⟩ := mem_getD hb
      rw [List.length_map, Array.length_toList] at hj
      rw [← numAt_eq]; exact g2 j (by omega)
  refine ⟨.int (mxL n ns), H, I.kept (t' := tk) hk, ⟨t, by rw [hM]⟩, q⟩
theorem fe_maxL (hc : X.calm = true) (hg : Gl X "max") (hm : X.mg "max" = none) (ha : FA X (e :: es) ga) (he : starEach (e :: es) X.env = (false, eval e X.env) :: starEach es X.env := by kernel_rfl) (hpl : (backTo pos (starEach es X.env)).any (·.1) = false := by kernel_rfl) : FE X (.Call (.Name "max" p) (e :: es) [] pos) (fB1 maxL ga) :=
  fe_of (pe_callB call_maxL hg hm PyProof.Rows.boot_max ha.h (by decide) (by decide) he hpl) fun σ H Q ρ E o => ⟨ρ, E, OutA.bind o fun ds vs H1 e1 rs o1 => by
    unfold maxL at o1
    split at o1
    · rename_i xs
      obtain ⟨v, rfl, r⟩ := reps1 rs
      obtain ⟨a, ws, rfl, h1, h2⟩ := r.lstE
      split at o1
      · rename_i n ns hb
        exact ⟨a, ws, xs, n, ns, rfl, h1, h2, hb, hc, o1 _ H1 (.refl H1) rfl⟩
      · exact o1.elim
    · exact o1.elim⟩
end
section
variable {X : Cx} {p pos : Pos} {e : Expr} {es : List Expr} {ga : FnA}
end
end FD
namespace FD
open PySem PySem.Spec PyProof.Rows L2
section
variable {prog : Program} {w : World} {A : Around} {E : Value → Shared → Prop} {s : Shared}
theorem enT_item {e it l : Addr} {i : Nat} {vs : Array Value} {x old : Value} {Q : Option Value → Shared → Prop} (ge : IsEnum s.heap e it i old) (gi : s.heap.IsTupleIter it l i) (gt : s.heap.IsTuple l vs) (gx : vs[i]? = some x) (ne : e ≠ it)
    (q : ∀ h', IsEnumOut h' e it ((i : Int) + 1) x s.heap.objs.size → h'.IsTupleIter it l (i + 1) → h'.get? s.heap.objs.size = some { cls := .type "tuple", data := .seq #[.int i s.toks, x] } → h'.objs.size = s.heap.objs.size + 1 →
      (∀ b o, b ≠ e → b ≠ it → s.heap.get? b = some o → h'.get? b = some o) → Q (some (.ref s.heap.objs.size)) { s with heap := h', toks := s.toks + 1 }) : wpAny (model prog w) A (pyNext (.ref e)) Q E s := by
  obtain ⟨hp, g, d, tk, os⟩ := s
  have ty : Shared.TypeIs ⟨hp, g, d, tk, os⟩ (.ref e) "enumerate" := ⟨_, ge, rfl⟩
  unfold pyNext; refine wpAny_bind (wpAny_attempt (wpAny_callSpecial?_slot (name := Str.ofString "__next__") ty F.slot_enumerate_next (wpAny_call_entry F.slot_enumerate_next ty F.entry_enumerate_next ?_ (F.args_enumerate_next_1 _))))
  show wpAny _ _ (field (.ref e) 2 >>= _) _ _ _; refine wpAny_bind (wpAny_field ge rfl (x := .ref it) rfl ?_)
  refine wpAny_bind (nextT_item gi gt gx fun hA iA sA => ?_)
  have sA' : Heap.SameBut it hp hA := sA
  have gA : IsEnum hA e it i old := (sA'.2 e ne).trans ge
  show wpAny _ _ (field (.ref e) 3 >>= _) _ _ ⟨hA, g, d, tk, os⟩; refine wpAny_bind (wpAny_field gA rfl (x := rawInt i) rfl ?_)
  show wpAny _ _ (field (.ref e) 4 >>= _) _ _ ⟨hA, g, d, tk, os⟩; refine wpAny_bind (wpAny_field gA rfl (x := .none) rfl ?_)
  show wpAny _ _ (mkInt i >>= _) _ _ ⟨hA, g, d, tk, os⟩; refine wpAny_bind (wpAny_mkInt ?_)
  show wpAny _ _ (setField (.ref e) 3 (rawInt ((i : Int) + 1)) >>= _) _ _ ⟨hA, g, d, tk + 1, os⟩; refine wpAny_bind (wpAny_setField_rec gA (by simp) fun hB gB sB => ?_)
  have sB' : Heap.SameBut e hA hB := sB
  have gB' : IsEnum hB e it ((i : Int) + 1) old := gB
  show wpAny _ _ (setField (.ref e) 4 .none >>= _) _ _ ⟨hB, g, d, tk + 1, os⟩; refine wpAny_bind (wpAny_setField_rec gB' (by simp) fun hC gC sC => ?_)
  have sC' : Heap.SameBut e hB hC := sC
  have gC' : IsEnum hC e it ((i : Int) + 1) old := gC
  show wpAny _ _ (newTuple [.int i tk, x] >>= _) _ _ ⟨hC, g, d, tk + 1, os⟩; refine wpAny_bind (wpAny_newTuple ?_)
  obtain ⟨hD, eD⟩ : ∃ hD, hD = hC.push { cls := .type "tuple", data := .seq #[.int i tk, x] } := ⟨_, rfl⟩
  have gD : IsEnum hD e it ((i : Int) + 1) old := by rw [eD]; exact Heap.get?_push_of_some _ gC'
  have zC : hC.objs.size = hp.objs.size := by rw [sC'.1, sB'.1, sA'.1]
  have le : e < hp.objs.size := Heap.lt_size ge
  have tD : hD.get? hp.objs.size = some { cls := .type "tuple", data := .seq #[.int i tk, x] } := by rw [eD, ← zC]; exact Heap.get?_push_size _ rfl
  have zD : hD.objs.size = hp.objs.size + 1 := by rw [eD, Heap.size_push, zC]
  have kD : ∀ b o, b ≠ e → b ≠ it → hp.get? b = some o → hD.get? b = some o := fun b o be bi gb => by rw [eD]; exact Heap.get?_push_of_some _ (sC'.extBut b o be (sB'.extBut b o be (sA'.extBut b o bi gb)))
  have iD : hD.IsTupleIter it l (i + 1) := by rw [eD]; exact ((iA.extBut sB'.extBut ne.symm).extBut sC'.extBut ne.symm).at fun o go => Heap.get?_push_of_some _ go
  show wpAny _ _ (Builtin.SmallTypes.ownedTupleIsFree (.ref e) >>= _) _ _ ⟨hC.push { cls := .type "tuple", data := .seq #[.int i tk, x] }, g, d, tk + 1, os⟩
  rw [← eD, zC]; refine wpAny_bind ?_; unfold Builtin.SmallTypes.ownedTupleIsFree; refine wpAny_bind (wpAny_field gD rfl (x := .none) rfl (wpAny_pure ?_)); simp only [if_true]
  refine wpAny_bind (wpAny_rule (wpAny_bind (wpAny_field gD rfl (x := old) rfl (wpAny_bind (wpAny_setField_rec gD (by simp) fun hE gE sE => ?_)))))
  have sE' : Heap.SameBut e hD hE := sE
  have gE' : IsEnum hE e it ((i : Int) + 1) x := gE
  show wpAny _ _ (Builtin.SmallTypes.ownedTupleHandOut (.ref e) (.ref hp.objs.size) >>= _) _ _ ⟨hE, g, d, tk + 1, os⟩; refine wpAny_bind ?_; unfold Builtin.SmallTypes.ownedTupleHandOut
  refine wpAny_bind (wpAny_setField_rec gE' (by simp) fun hF gF sF => ?_)
  have sF' : Heap.SameBut e hE hF := sF
  have gF' : IsEnumOut hF e it ((i : Int) + 1) x hp.objs.size := gF
  refine wpAny_setField_rec gF' (by simp) fun hG gG sG => ?_
  have sG' : Heap.SameBut e hF hG := sG
  have up : ∀ b o, b ≠ e → hD.get? b = some o → hG.get? b = some o := fun b o be gb => sG'.extBut b o be (sF'.extBut b o be (sE'.extBut b o be gb))
  refine wpAny_bind (wpAny_letGo (wpAny_pure ⟨_, rfl, wpAny_pure (q hG gG (iD.at fun o go => up _ o ne.symm go) (up _ _ (Nat.ne_of_gt le) tD) (by rw [sG'.1, sF'.1, sE'.1, zD]) fun b o be bi gb => up b o be (kD b o be bi gb))⟩))
theorem enT_end {e it l : Addr} {i : Nat} {vs : Array Value} {old : Value} {Q : Option Value → Shared → Prop} (hh : A.handled = none) (ge : IsEnum s.heap e it i old) (gi : s.heap.IsTupleIter it l i) (gt : s.heap.IsTuple l vs) (gx : vs[i]? = none)
    (q : ∀ h', Heap.ExtBut it s.heap h' → Q none { s with heap := h' }) : wpAny (model prog w) A (pyNext (.ref e)) Q E s := by
  have ty : s.TypeIs (.ref e) "enumerate" := ⟨_, ge, rfl⟩
  unfold pyNext; refine wpAny_bind (wpAny_attempt (wpAny_callSpecial?_slot (name := Str.ofString "__next__") ty F.slot_enumerate_next (wpAny_call_entry F.slot_enumerate_next ty F.entry_enumerate_next ?_ (F.args_enumerate_next_1 _))))
  show wpAny _ _ (field (.ref e) 2 >>= _) _ _ _; refine wpAny_bind (wpAny_field ge rfl (x := .ref it) rfl ?_)
  refine wpAny_bind (nextT_end hh gi gt gx fun h' y ke ky => ?_)
  obtain ⟨o, go, co⟩ := ky
  exact wpAny_bind (wpAny_isInstance (T := "StopIteration") (b := true) ⟨o, go, co⟩ isSubtype_stop (wpAny_pure (q _ ke)))
end
theorem enT_new (l : Addr) (vs : Array Value) :
    Meets (Builtin.«enumerate.__new__» ⟨[.type "enumerate", .ref l], []⟩) (fun _ R s => s.heap.IsTuple l vs ∧ R (.ok (.ret (.ref (zq1 s.heap l).objs.size))) { s with heap := (zq1 s.heap l).push { cls := .type "enumerate", data := .fields #[.none, .bool false, .ref s.heap.objs.size, rawInt 0, .none, .none] } }) :=
  .of_wp fun prog w A R s h => by
    obtain ⟨hp, g, d, tk, os⟩ := s; obtain ⟨m1, h⟩ := h
    have hsub := sub_enumerate
    have t1 : Heap.IsTuple (Shared.heap ⟨hp, g, d, tk, os⟩) l vs := m1
    wp_walk
    refine wpAny_stack_any fun st => wpAny_pure ?_
    split
    · rename_i c _ _ _ _ _
      cases (c == Value.type "enumerate") <;> (wp_walk using wpAny_pyIter_tuple t1; exact ⟨_, rfl, h⟩)
    · wp_walk using wpAny_pyIter_tuple t1; exact ⟨_, rfl, h⟩
section
variable {prog : Program} {w : World} {A : Around} {E : Value → Shared → Prop} {s : Shared}
theorem call_enT {l : Addr} {vs : Array Value} {Q : Value → Shared → Prop} (m1 : s.heap.IsTuple l vs)
    (q : ∀ h', IsEnum h' (s.heap.objs.size + 1) s.heap.objs.size 0 .none → h'.IsTupleIter s.heap.objs.size l 0 → (∀ b o, s.heap.get? b = some o → h'.get? b = some o) → Q (.ref (s.heap.objs.size + 1)) { s with heap := h' }) :
    wpAny (model prog w) A (call (.type "enumerate") [.ref l]) Q E s := by
  have n1 : (zq1 s.heap l).objs.size = s.heap.objs.size + 1 := Heap.size_push ..
  refine callType_new F.called_enumerate (by decide) (F.typeCall_enumerate_1 _) (F.newCall_enumerate_1 _) (fun obj => F.args_object_init_2 obj _) F.entry_enumerate_new (enT_new l vs) ⟨m1, ?_⟩
  have g2 : ((zq1 s.heap l).push { cls := .type "enumerate", data := .fields #[.none, .bool false, .ref s.heap.objs.size, rawInt 0, .none, .none] }).get? (zq1 s.heap l).objs.size = some _ := Heap.get?_push_size _ rfl
  have g1 : ((zq1 s.heap l).push { cls := .type "enumerate", data := .fields #[.none, .bool false, .ref s.heap.objs.size, rawInt 0, .none, .none] }).get? s.heap.objs.size = some _ := Heap.get?_push_of_some _ (Heap.get?_push_size _ rfl)
  show _ ∧ _
  rw [n1] at g2 ⊢
  exact ⟨⟨_, g2, rfl⟩, q _ g2 ⟨_, g1, rfl, rfl⟩ fun c o g => Heap.get?_push_of_some _ (Heap.get?_push_of_some _ g)⟩
end
def ItE (K : PySem.W.Frag) (a : Addr) : It :=
  ⟨fun i H => ∃ xs x, H a = some (.tup xs) ∧ xs[i]? = some x, fun i H v H' => ∃ p x, v = .ref p ∧ H p = none ∧ H' = upd H p (.tup [.int i, x]) ∧ ∀ xs, H a = some (.tup xs) → xs[i]? = some x, fun i H => ∃ xs, H a = some (.tup xs) ∧ xs.length ≤ i⟩
theorem turn_enT {P : Program} {w : World} {K : PySem.W.Frag} {es : List Expr} {k : Nat} {pos : Pos} (a e it : Addr) (hne : e ≠ it) : Turn P w K (.Tuple es k pos) (ItE K a) [e, it] e (fun i h => (∃ old, IsEnum h e it i old) ∧ h.IsTupleIter it a i) where
  mem := by simp
  obj := fun i h st b hb => by
    obtain ⟨⟨old, he⟩, o, e2, c, d⟩ := st
    have hb' : b = e ∨ b = it := by simpa using hb
    rcases hb' with rfl | rfl
    · exact ⟨_, he, fun v z => by cases z⟩
    · exact ⟨o, e2, fun v z => by rw [d] at z; cases z⟩
  keep := fun i h h' st kk => by
    obtain ⟨⟨old, he⟩, st2⟩ := st
    exact ⟨⟨old, kk e (by simp) _ he⟩, st2.at fun o ee => kk it (by simp) o ee⟩
  item := by
    intro X hP hw hK hc i pins s σ H E I hf st hg
    subst hP hw hK
    obtain ⟨xs, x, hq, hx⟩ := hg
    obtain ⟨its, rv, p, hz⟩ := I.tuple (SqT.of hq)
    obtain ⟨u, hu, ru⟩ := rv.get hx
    obtain ⟨⟨old, he⟩, st2⟩ := st
    obtain ⟨f0, f1, f2, f3, f4, f5⟩ := hf e (by simp)
    obtain ⟨g0, g1, g2, g3, g4, g5⟩ := hf it (by simp)
    refine enT_item he st2 (show s.heap.IsTuple a its.toArray from p) (x := u) (by simpa using hu) hne fun h' eo st' tp sz kk => ?_
    refine ⟨_, rfl, wpAny_letOwnedTupleGo_enum eo fun h2 he2 sb2 => ?_⟩
    have hp : H s.heap.objs.size = none := I.hok.fresh (Nat.le_refl _)
    have elt : e < s.heap.objs.size := Heap.lt_size he
    have k2 : ∀ b o, b ∉ [e, it] → s.heap.get? b = some o → h2.get? b = some o := fun b o hb q => sb2.extBut b o (fun z => hb (by simp [z])) (kk b o (fun z => hb (by simp [z])) (fun z => hb (by simp [z])) q)
    have tp2 : h2.get? s.heap.objs.size = some { cls := .type "tuple", data := .seq #[.int i s.toks, u] } := sb2.extBut _ _ (Nat.ne_of_gt elt) tp
    have I1 : Inv X pins σ (upd H s.heap.objs.size (.tup [.int i, x])) { s with heap := h2, toks := s.toks + 1 } := by
      have nt : ∀ b u, H b = some u → b ∉ [e, it] := fun b u q z => by
        have z' : b = e ∨ b = it := by simpa using z
        rcases z' with rfl | rfl
        · rw [f0] at q; cases q
        · rw [g0] at q; cases q
      refine I.step (g' := s.gens) (d' := s.drawn) (ch := [e, it]) (fun b hb => ?_) (fun b o _ _ hcb q _ => k2 b o hcb q) (fun b o _ _ hcb q _ => ⟨o.slots, k2 b o hcb q⟩) (fun b o hcb q n => ?_) (fun b o hcb q => ⟨o, k2 b o hcb q⟩)
        (fun b ys q => by rw [upd_ne (ne_of_none q hp)]; exact q) (fun b o ys q => by rw [upd_ne (ne_of_none q hp)]; exact q) (fun b ps q => ⟨#[], by rw [upd_ne (ne_of_none q hp), q]; simp⟩) (fun m hm => ?_) (fun b u2 q => ?_) I.bare
      · have z' : b = e ∨ b = it := by simpa using hb
        rcases z' with rfl | rfl
        · exact ⟨f3, f1, f4, f5⟩
        · exact ⟨g3, g1, g4, g5⟩
      · rw [upd_ne (Nat.ne_of_lt (Heap.lt_size q))]; exact n
      · obtain ⟨o, es', ep, ho, r⟩ := hm
        exact ⟨o, es', ep, k2 _ o (fun z => by
          have z' : X.env.locals = e ∨ X.env.locals = it := by simpa using z
          rcases z' with z' | z'
          · exact f1 z'.symm
          · exact g1 z'.symm) ho, r⟩
      · by_cases hb : b = s.heap.objs.size
        · subst hb
          rw [upd_same] at q
          cases q
          exact ⟨by show 2 ≤ sizeLine; decide, [.int i s.toks, u], .cons ⟨_, rfl⟩ (.cons ru .nil), ⟨_, tp2, rfl, _, rfl⟩⟩
        · rw [upd_ne hb] at q
          refine (I.hok b u2 q).stay (fun c v hcv qq => k2 c v ?_ qq) (fun c qq => by rw [upd_ne (ne_of_none qq hp)]; exact qq) fun c ys qq => by rw [upd_ne (ne_of_none qq hp)]; exact qq
          rcases hcv with rfl | hcv
          · exact nt _ _ q
          · exact nt _ _ hcv
    refine ⟨.ref s.heap.objs.size, _, I1, rfl, ⟨_, x, rfl, hp, rfl, fun zs hy => by rw [hq] at hy; cases hy; exact hx⟩, ⟨⟨_, by simpa using he2⟩, ?_⟩, fun b hb => ?_⟩
    · exact st'.at fun o q => sb2.extBut _ _ (Ne.symm hne) q
    · have z' : b = e ∨ b = it := by simpa using hb
      rcases z' with rfl | rfl
      · rw [upd_ne (Nat.ne_of_lt elt)]; exact f0
      · obtain ⟨o, q, _⟩ := id st2
        rw [upd_ne (Nat.ne_of_lt (Heap.lt_size q))]; exact g0
  done := by
    intro X hP hw hK hc i pins s σ H E I hf st hg
    subst hP hw hK
    obtain ⟨xs, hq, hx⟩ := hg
    obtain ⟨its, rv, p, hz⟩ := I.tuple (SqT.of hq)
    obtain ⟨⟨old, he⟩, st2⟩ := st
    obtain ⟨g0, g1, g2, g3, g4, g5⟩ := hf it (by simp)
    have hl := rv.length
    exact enT_end (I.ok.hd hc) he st2 (show s.heap.IsTuple a its.toArray from p) (by simp; omega) fun h' eb => ⟨rfl, I.turned (t' := s.toks) (fun b o hb e => eb b o hb e) g0 g1 g3 g4 g5⟩
  self := fun _ _ _ _ _ st h => by
    obtain ⟨⟨old, he⟩, _⟩ := st
    exact wpAny_pyIter_enum he h
theorem wk_enT {K : PySem.W.Frag} {H : Hp} {a : Addr} {xs : List V} {ds : List Dv} (h : H a = some (.tup xs)) (r : Reps K H ds xs) : WkG K (ItE K a) (enumL 0 ds) H where
  go := fun i H' e hi => by
    rw [enumL_length] at hi
    have hx : i < xs.length := by rw [r.length]; exact hi
    exact ⟨xs, xs[i], e _ _ h, by simp [hx]⟩
  stop := fun H' e => ⟨xs, e _ _ h, by rw [r.length, enumL_length]; exact Nat.le_refl _⟩
  yld := fun i H' v H2 e hi y => by
    obtain ⟨p, x, rfl, hp, rfl, y⟩ := y
    obtain ⟨d, h1, h2⟩ := Reps.get (Reps.mono e _ _ r) (y xs (e _ _ h))
    have q := enumL_get ds 0 i d h1
    rw [Nat.zero_add] at q
    exact ⟨same_new hp _, _, q, ⟨p, _, rfl, upd_same, ⟨.int i, [x], rfl, rfl, x, [], rfl, Rep.mono (same_new hp _) _ _ h2, rfl⟩⟩⟩
def enumT : List Dv → Option (Rs (List Dv))
  | [.tup ds] => some (.ok (enumL 0 ds))
  | _ => none
theorem fig_enT {X : Cx} {es : List Expr} {k : Nat} {pt p pos : Pos} {l : Expr} {ga : FnA} (hg : Gl X "enumerate") (hm : X.mg "enumerate" = none) (ha : FA X [l] ga) (hs : starEach [l] X.env = [(false, eval l X.env)] := by kernel_rfl) : FIG X (.Tuple es k pt) (.Call (.Name "enumerate" p) [l] [] pos) (fun ρ => bnd (ga ρ) enumT) := by
  constructor
  intro pins s σ H R I h
  obtain ⟨ρ, E, o⟩ := h
  have key : OutA X H (ga ρ) fun vs H' => ∃ ds, Reps X.K H' ds vs ∧ OutG X H' (enumT ds) R := by
    match hf : ga ρ, o with
    | some (.exc c), o => exact o
    | some (.ok ds), o => exact fun vs H' e rs => ⟨ds, rs, OutG.mono e o⟩
  refine Call_ (ld_blt I hg hm (show bootBuiltins "enumerate" = some (.type "enumerate") by decide +kernel) (PyProof.Rows.callWith_type1 (thn (ha.h pos pins s σ H _ I ⟨ρ, E, key⟩) fun us s1 ⟨vs, H1, I1, r1, ds, rs, q1⟩ => ?_) hs rfl))
  unfold enumT at q1
  split at q1
  · rename_i xs
    obtain ⟨v, rfl, rv⟩ := reps1 rs
    obtain ⟨a, ws, rfl, h1, h2⟩ := rv.tupE
    obtain ⟨u, rfl, ru⟩ := vals1 r1
    cases ru
    obtain ⟨its, rv', pl, hz⟩ := I1.tuple (SqT.of h1)
    refine call_enT (show s1.heap.IsTuple a its.toArray from pl) fun h' he hit kk => ?_
    refine wpAny_pyIter_enum he ?_
    have I2 : Inv X pins σ H1 { s1 with heap := h' } := I1.kept (t' := s1.toks) kk
    refine ⟨s1.heap.objs.size + 1, [s1.heap.objs.size + 1, s1.heap.objs.size], _, ItE X.K a, H1, rfl, I2, turn_enT a _ _ (Nat.succ_ne_self _), ⟨⟨_, he⟩, hit⟩, fun b hb => ?_, q1 _ H1 (.refl H1) (wk_enT h1 h2)⟩
    have hb' : b = s1.heap.objs.size + 1 ∨ b = s1.heap.objs.size := by simpa using hb
    rcases hb' with rfl | rfl
    · exact I1.fpOk (Nat.le_succ _) (I1.hok.fresh (Nat.le_succ _))
    · exact I1.fpOk (Nat.le_refl _) (I1.hok.fresh (Nat.le_refl _))
  · exact q1.elim
end FD
namespace FD
open PySem PySem.Spec PyProof.Rows L2
theorem mapF_G {tst : Option FnB} {elt : FnE} {cap : Ev} : ∀ ds : List Dv, mapF tst elt cap ds = mapG (gN 0) tst elt cap ds
  | [] => rfl
  | d :: ds => by
    unfold mapF mapG
    rw [mapF_G ds]
    rfl
theorem fComp_G (cs : List (Str × Nat)) (src : FnA) (tst : Option FnB) (fe : FnE) : fComp cs src tst fe = fCompG 1 cs src (gN 0) tst fe := by
  funext ρ
  show bnd (src ρ) _ = bnd (src ρ) _
  congr 1
  funext ds
  rw [mapF_G]
  rfl
theorem fe_compF {X : Cx} {tg elt iter : Expr} {ifs : List Expr} {scope : Scope} {pos : Pos} {src : FnA} {tst : Option FnB} {fe : FnE} (osc : Scope) (N ns : List Str) (js : List Nat) (cs : List (Str × Nat)) (hosc : X.env.scope = osc) (hN : X.N = N) (ok : CompOkG osc scope cs N) (hcl : closureFor scope X.env = pure (clOf scope.names X.env [])) (hc : X.calm = true)
    (hback : ∀ ρ d ρ', gN 0 d (capG ns.length cs ρ) = some ρ' → fgt js ρ' = capG ns.length cs ρ)
    (hi : FIG X tg iter src) (htg : ∀ C s H fp, FG (compCx X (ns ++ cs.map (·.1)) scope C s H fp) tg (gN 0)) (helt : ∀ C s H fp, FE (compCx X (ns ++ cs.map (·.1)) scope C s H fp) elt fe) (hifs : ∀ C s H fp, FIfs (compCx X (ns ++ cs.map (·.1)) scope C s H fp) ifs tst) (h1 : ns.length = 1 := by rfl)
    (hs : ∀ x, foldedSetIterable iter X.env x = pure x := by intro _; kernel_rfl) : FE X (.ListComp elt [⟨tg, iter, ifs, 0⟩] scope pos) (fComp cs src tst fe) := by
  have h := fe_compG (pos := pos) osc N ns js cs hosc hN ok hcl hc hback hi htg helt hifs hs
  rw [h1] at h
  rw [fComp_G]
  exact h
theorem fs_setF {X : Cx} {st : Stmt} {i : Nat} {fc : FnE} (h : PS X st (tC X i fc)) (hl : ∀ ρ d, fc ρ = some (.ok d) → ∃ ys, d = .lst ys) : FS X st (fSet i fc) := ⟨fun pins s σ H D I ⟨ρ, E, o⟩ => by
  refine h pins s σ H D I ⟨ρ, E, ?_⟩
  unfold fSet at o
  match hf : fc ρ with
  | none => rw [hf] at o; exact o.elim
  | some (.exc c) => rw [hf] at o; exact o
  | some (.ok d) =>
    rw [hf] at o
    obtain ⟨ys, rfl⟩ := hl ρ d hf
    exact ⟨ys, rfl, fun H5 p vs e5 hp rs => o _ _ (e5.trans (same_new hp _)) ((E.mono (e5.trans (same_new hp _))).set ⟨p, vs, rfl, upd_same, Reps.mono (same_new hp _) _ _ rs⟩)⟩⟩
end FD
namespace FD
open PySem PySem.Spec PyProof.Rows L2
theorem loopF_const {i : Nat} {js : List Nat} {body : FnS} {ρ : Ev} : ∀ {ds : List Dv}, (∀ d ∈ ds, ∃ ρ', body (ρ.set i (some d)) = some (.nx ρ') ∧ fgt js ρ' = ρ) → ∀ ρ0, fgt js ρ0 = ρ → loopF i js body ds ρ0 = some (.nx ρ)
  | [], _, ρ0, e => by unfold loopF; rw [e]
  | d :: ds, h, ρ0, e => by
    obtain ⟨ρ', h1, h2⟩ := h d List.mem_cons_self
    unfold loopF
    rw [e, h1]
    exact loopF_const (fun d' hd => h d' (List.mem_cons_of_mem _ hd)) ρ' h2
theorem ifS_T {c : FnB} {f g : FnS} {ρ : Ev} (h : c ρ = some (.ok true)) : fIfS c f g ρ = f ρ := by
  unfold fIfS; rw [h]; rfl
theorem all_mem {α : Type} {p : α → Bool} {l : List α} (h : l.all p = true) {x : α} (hx : x ∈ l) : p x = true := List.all_eq_true.mp h x hx
end FD
namespace G
open PySem PySem.Spec PyProof.Rows L2 FD
def top (i : Nat) : Stmt := PySem.Challenge.pw_notejar_k50_jars.main.body.getD i (.Pass ⟨0, 0, 0, 0⟩)
abbrev s__law_cell : Stmt := top 65
theorem sc__law_cell : FnScope ["_law_script", "_law_k"] ["_law_script", "_law_k"] (defScope s__law_cell) := ⟨rfl, rfl, rfl, by decide +kernel, rfl, by decide +kernel, by decide +kernel⟩
theorem bd__law_cell {K : PySem.W.Frag} {f : Addr} {fd : FuncData} (Fn : Fun K "_law_cell" "_law_cell" s__law_cell f fd) : Binds K fd ["_law_script", "_law_k"] [] := Fn.binds fun _ _ _ _ _ _ us hl => match us, hl with | [_, _], _ => rfl
abbrev s__law_drawn : Stmt := top 66
theorem sc__law_drawn : FnScope ["_law_script", "_law_k", "_law_many_here", "_law_cell_here"] ["_law_script", "_law_k", "_law_many_here"] (defScope s__law_drawn) := ⟨rfl, rfl, rfl, by decide +kernel, rfl, by decide +kernel, by decide +kernel⟩
theorem bd__law_drawn {K : PySem.W.Frag} {f : Addr} {fd : FuncData} (Fn : Fun K "_law_drawn" "_law_drawn" s__law_drawn f fd) : Binds K fd ["_law_script", "_law_k", "_law_many_here"] [] := Fn.binds fun _ _ _ _ _ _ us hl => match us, hl with | [_, _, _], _ => rfl
abbrev s_is_whole_number : Stmt := top 11
theorem sc_is_whole_number : FnScope ["thing", "least", "most"] ["thing", "least", "most"] (defScope s_is_whole_number) := ⟨rfl, rfl, rfl, by decide +kernel, rfl, by decide +kernel, by decide +kernel⟩
theorem bd_is_whole_number {K : PySem.W.Frag} {f : Addr} {fd : FuncData} (Fn : Fun K "is_whole_number" "is_whole_number" s_is_whole_number f fd) : Binds K fd ["thing", "least", "most"] [] := Fn.binds fun _ _ _ _ _ _ us hl => match us, hl with | [_, _, _], _ => rfl
abbrev s_is_moment : Stmt := top 28
theorem sc_is_moment : FnScope ["thing"] ["thing"] (defScope s_is_moment) := ⟨rfl, rfl, rfl, by decide +kernel, rfl, by decide +kernel, by decide +kernel⟩
theorem bd_is_moment {K : PySem.W.Frag} {f : Addr} {fd : FuncData} (Fn : Fun K "is_moment" "is_moment" s_is_moment f fd) : Binds K fd ["thing"] [] := Fn.binds fun _ _ _ _ _ _ us hl => match us, hl with | [_], _ => rfl
abbrev s_is_moment_or_none : Stmt := top 29
theorem sc_is_moment_or_none : FnScope ["thing"] ["thing"] (defScope s_is_moment_or_none) := ⟨rfl, rfl, rfl, by decide +kernel, rfl, by decide +kernel, by decide +kernel⟩
theorem bd_is_moment_or_none {K : PySem.W.Frag} {f : Addr} {fd : FuncData} (Fn : Fun K "is_moment_or_none" "is_moment_or_none" s_is_moment_or_none f fd) : Binds K fd ["thing"] [] := Fn.binds fun _ _ _ _ _ _ us hl => match us, hl with | [_], _ => rfl
abbrev s_is_text_of : Stmt := top 10
theorem sc_is_text_of : FnScope ["thing", "signs", "least", "most"] ["thing", "signs", "least", "most"] (defScope s_is_text_of) := ⟨rfl, rfl, rfl, by decide +kernel, rfl, by decide +kernel, by decide +kernel⟩
theorem bd_is_text_of {K : PySem.W.Frag} {f : Addr} {fd : FuncData} (Fn : Fun K "is_text_of" "is_text_of" s_is_text_of f fd) : Binds K fd ["thing", "signs", "least", "most"] [] := Fn.binds fun _ _ _ _ _ _ us hl => match us, hl with | [_, _, _, _], _ => rfl
abbrev s_is_label : Stmt := top 18
theorem sc_is_label : FnScope ["thing"] ["thing"] (defScope s_is_label) := ⟨rfl, rfl, rfl, by decide +kernel, rfl, by decide +kernel, by decide +kernel⟩
theorem bd_is_label {K : PySem.W.Frag} {f : Addr} {fd : FuncData} (Fn : Fun K "is_label" "is_label" s_is_label f fd) : Binds K fd ["thing"] [] := Fn.binds fun _ _ _ _ _ _ us hl => match us, hl with | [_], _ => rfl
abbrev s_is_name : Stmt := top 19
theorem sc_is_name : FnScope ["thing", "parts"] ["thing"] (defScope s_is_name) := ⟨rfl, rfl, rfl, by decide +kernel, rfl, by decide +kernel, by decide +kernel⟩
theorem bd_is_name {K : PySem.W.Frag} {f : Addr} {fd : FuncData} (Fn : Fun K "is_name" "is_name" s_is_name f fd) : Binds K fd ["thing"] [] := Fn.binds fun _ _ _ _ _ _ us hl => match us, hl with | [_], _ => rfl
abbrev s_is_note_name : Stmt := top 36
theorem sc_is_note_name : FnScope ["thing"] ["thing"] (defScope s_is_note_name) := ⟨rfl, rfl, rfl, by decide +kernel, rfl, by decide +kernel, by decide +kernel⟩
theorem bd_is_note_name {K : PySem.W.Frag} {f : Addr} {fd : FuncData} (Fn : Fun K "is_note_name" "is_note_name" s_is_note_name f fd) : Binds K fd ["thing"] [] := Fn.binds fun _ _ _ _ _ _ us hl => match us, hl with | [_], _ => rfl
abbrev s_is_path : Stmt := top 25
theorem sc_is_path : FnScope ["thing"] ["thing"] (defScope s_is_path) := ⟨rfl, rfl, rfl, by decide +kernel, rfl, by decide +kernel, by decide +kernel⟩
theorem bd_is_path {K : PySem.W.Frag} {f : Addr} {fd : FuncData} (Fn : Fun K "is_path" "is_path" s_is_path f fd) : Binds K fd ["thing"] [] := Fn.binds fun _ _ _ _ _ _ us hl => match us, hl with | [_], _ => rfl
abbrev s_is_reach : Stmt := top 38
theorem sc_is_reach : FnScope ["thing"] ["thing"] (defScope s_is_reach) := ⟨rfl, rfl, rfl, by decide +kernel, rfl, by decide +kernel, by decide +kernel⟩
theorem bd_is_reach {K : PySem.W.Frag} {f : Addr} {fd : FuncData} (Fn : Fun K "is_reach" "is_reach" s_is_reach f fd) : Binds K fd ["thing"] [] := Fn.binds fun _ _ _ _ _ _ us hl => match us, hl with | [_], _ => rfl
abbrev s_is_tuple_of : Stmt := top 12
theorem sc_is_tuple_of : FnScope ["thing", "parts"] ["thing", "parts"] (defScope s_is_tuple_of) := ⟨rfl, rfl, rfl, by decide +kernel, rfl, by decide +kernel, by decide +kernel⟩
theorem bd_is_tuple_of {K : PySem.W.Frag} {f : Addr} {fd : FuncData} (Fn : Fun K "is_tuple_of" "is_tuple_of" s_is_tuple_of f fd) : Binds K fd ["thing", "parts"] [] := Fn.binds fun _ _ _ _ _ _ us hl => match us, hl with | [_, _], _ => rfl
abbrev s_is_worth : Stmt := top 37
theorem sc_is_worth : FnScope ["thing"] ["thing"] (defScope s_is_worth) := ⟨rfl, rfl, rfl, by decide +kernel, rfl, by decide +kernel, by decide +kernel⟩
theorem bd_is_worth {K : PySem.W.Frag} {f : Addr} {fd : FuncData} (Fn : Fun K "is_worth" "is_worth" s_is_worth f fd) : Binds K fd ["thing"] [] := Fn.binds fun _ _ _ _ _ _ us hl => match us, hl with | [_], _ => rfl
abbrev s_is_note : Stmt := top 51
theorem sc_is_note : FnScope ["thing"] ["thing"] (defScope s_is_note) := ⟨rfl, rfl, rfl, by decide +kernel, rfl, by decide +kernel, by decide +kernel⟩
theorem bd_is_note {K : PySem.W.Frag} {f : Addr} {fd : FuncData} (Fn : Fun K "is_note" "is_note" s_is_note f fd) : Binds K fd ["thing"] [] := Fn.binds fun _ _ _ _ _ _ us hl => match us, hl with | [_], _ => rfl
abbrev s__law_is_jar : Stmt := top 80
theorem sc__law_is_jar : FnScope ["_law_thing", "_law_keys", "_law_moments"] ["_law_thing"] (defScope s__law_is_jar) := ⟨rfl, rfl, rfl, by decide +kernel, rfl, by decide +kernel, by decide +kernel⟩
theorem bd__law_is_jar {K : PySem.W.Frag} {f : Addr} {fd : FuncData} (Fn : Fun K "_law_is_jar" "_law_is_jar" s__law_is_jar f fd) : Binds K fd ["_law_thing"] [] := Fn.binds fun _ _ _ _ _ _ us hl => match us, hl with | [_], _ => rfl
abbrev s__law_name : Stmt := top 67
theorem sc__law_name : FnScope ["_law_script", "_law_at", "_law_some"] ["_law_script", "_law_at"] (defScope s__law_name) := ⟨rfl, rfl, rfl, by decide +kernel, rfl, by decide +kernel, by decide +kernel⟩
theorem bd__law_name {K : PySem.W.Frag} {f : Addr} {fd : FuncData} (Fn : Fun K "_law_name" "_law_name" s__law_name f fd) : Binds K fd ["_law_script", "_law_at"] [] := Fn.binds fun _ _ _ _ _ _ us hl => match us, hl with | [_, _], _ => rfl
abbrev s__law_path : Stmt := top 69
theorem sc__law_path : FnScope ["_law_script", "_law_at", "_law_some"] ["_law_script", "_law_at"] (defScope s__law_path) := ⟨rfl, rfl, rfl, by decide +kernel, rfl, by decide +kernel, by decide +kernel⟩
theorem bd__law_path {K : PySem.W.Frag} {f : Addr} {fd : FuncData} (Fn : Fun K "_law_path" "_law_path" s__law_path f fd) : Binds K fd ["_law_script", "_law_at"] [] := Fn.binds fun _ _ _ _ _ _ us hl => match us, hl with | [_, _], _ => rfl
abbrev s__law_jar : Stmt := top 77
theorem sc__law_jar : FnScope ["_law_script", "_law_at", "_law_many_here", "_law_found", "_law_now", "_law_k", "_law_here", "_law_name_here", "_law_worth", "_law_ends_here", "_law_exact", "_law_head", "_law_reach", "_law_safe", "_law_late", "_law_note"] ["_law_script", "_law_at", "_law_many_here"] (defScope s__law_jar) := ⟨rfl, rfl, rfl, by decide +kernel, rfl, by decide +kernel, by decide +kernel⟩
theorem bd__law_jar {K : PySem.W.Frag} {f : Addr} {fd : FuncData} (Fn : Fun K "_law_jar" "_law_jar" s__law_jar f fd) : Binds K fd ["_law_script", "_law_at", "_law_many_here"] [] := Fn.binds fun _ _ _ _ _ _ us hl => match us, hl with | [_, _, _], _ => rfl
abbrev s__law_many : Stmt := top 81
theorem sc__law_many : FnScope ["_law_many_here"] ["_law_many_here"] (defScope s__law_many) := ⟨rfl, rfl, rfl, by decide +kernel, rfl, by decide +kernel, by decide +kernel⟩
theorem bd__law_many {K : PySem.W.Frag} {f : Addr} {fd : FuncData} (Fn : Fun K "_law_many" "_law_many" s__law_many f fd) : Binds K fd ["_law_many_here"] [] := Fn.binds fun _ _ _ _ _ _ us hl => match us, hl with | [_], _ => rfl
abbrev s__law_refused : Stmt := top 78
theorem sc__law_refused : FnScope ["_law_e", "_law_flags"] ["_law_e"] (defScope s__law_refused) := ⟨rfl, rfl, rfl, by decide +kernel, rfl, by decide +kernel, by decide +kernel⟩
theorem bd__law_refused {K : PySem.W.Frag} {f : Addr} {fd : FuncData} (Fn : Fun K "_law_refused" "_law_refused" s__law_refused f fd) : Binds K fd ["_law_e"] [] := Fn.binds fun _ _ _ _ _ _ us hl => match us, hl with | [_], _ => rfl
abbrev s_lies_within : Stmt := top 21
theorem sc_lies_within : FnScope ["one", "other"] ["one", "other"] (defScope s_lies_within) := ⟨rfl, rfl, rfl, by decide +kernel, rfl, by decide +kernel, by decide +kernel⟩
theorem bd_lies_within {K : PySem.W.Frag} {f : Addr} {fd : FuncData} (Fn : Fun K "lies_within" "lies_within" s_lies_within f fd) : Binds K fd ["one", "other"] [] := Fn.binds fun _ _ _ _ _ _ us hl => match us, hl with | [_, _], _ => rfl
abbrev s_key : Stmt := top 52
theorem sc_key : FnScope ["note"] ["note"] (defScope s_key) := ⟨rfl, rfl, rfl, by decide +kernel, rfl, by decide +kernel, by decide +kernel⟩
theorem bd_key {K : PySem.W.Frag} {f : Addr} {fd : FuncData} (Fn : Fun K "key" "key" s_key f fd) : Binds K fd ["note"] [] := Fn.binds fun _ _ _ _ _ _ us hl => match us, hl with | [_], _ => rfl
abbrev s_has_no_key_twice : Stmt := top 58
theorem sc_has_no_key_twice : FnScope ["notes", "keys"] ["notes"] (defScope s_has_no_key_twice) := ⟨rfl, rfl, rfl, by decide +kernel, rfl, by decide +kernel, by decide +kernel⟩
theorem bd_has_no_key_twice {K : PySem.W.Frag} {f : Addr} {fd : FuncData} (Fn : Fun K "has_no_key_twice" "has_no_key_twice" s_has_no_key_twice f fd) : Binds K fd ["notes"] [] := Fn.binds fun _ _ _ _ _ _ us hl => match us, hl with | [_], _ => rfl
abbrev s_is_by_made : Stmt := top 57
theorem sc_is_by_made : FnScope ["notes"] ["notes"] (defScope s_is_by_made) := ⟨rfl, rfl, rfl, by decide +kernel, rfl, by decide +kernel, by decide +kernel⟩
theorem bd_is_by_made {K : PySem.W.Frag} {f : Addr} {fd : FuncData} (Fn : Fun K "is_by_made" "is_by_made" s_is_by_made f fd) : Binds K fd ["notes"] [] := Fn.binds fun _ _ _ _ _ _ us hl => match us, hl with | [_], _ => rfl
abbrev s_is_jar : Stmt := top 56
theorem sc_is_jar : FnScope ["thing"] ["thing"] (defScope s_is_jar) := ⟨rfl, rfl, rfl, by decide +kernel, rfl, by decide +kernel, by decide +kernel⟩
theorem bd_is_jar {K : PySem.W.Frag} {f : Addr} {fd : FuncData} (Fn : Fun K "is_jar" "is_jar" s_is_jar f fd) : Binds K fd ["thing"] [] := Fn.binds fun _ _ _ _ _ _ us hl => match us, hl with | [_], _ => rfl
abbrev s_need_jar : Stmt := top 59
theorem sc_need_jar : FnScope ["thing"] ["thing"] (defScope s_need_jar) := ⟨rfl, rfl, rfl, by decide +kernel, rfl, by decide +kernel, by decide +kernel⟩
theorem bd_need_jar {K : PySem.W.Frag} {f : Addr} {fd : FuncData} (Fn : Fun K "need_jar" "need_jar" s_need_jar f fd) : Binds K fd ["thing"] [] := Fn.binds fun _ _ _ _ _ _ us hl => match us, hl with | [_], _ => rfl
abbrev s_need_name : Stmt := top 20
theorem sc_need_name : FnScope ["thing"] ["thing"] (defScope s_need_name) := ⟨rfl, rfl, rfl, by decide +kernel, rfl, by decide +kernel, by decide +kernel⟩
theorem bd_need_name {K : PySem.W.Frag} {f : Addr} {fd : FuncData} (Fn : Fun K "need_name" "need_name" s_need_name f fd) : Binds K fd ["thing"] [] := Fn.binds fun _ _ _ _ _ _ us hl => match us, hl with | [_], _ => rfl
abbrev s_forgotten : Stmt := top 62
theorem sc_forgotten : FnScope ["jar", "house"] ["jar", "house"] (defScope s_forgotten) := ⟨rfl, rfl, rfl, by decide +kernel, rfl, by decide +kernel, by decide +kernel⟩
theorem bd_forgotten {K : PySem.W.Frag} {f : Addr} {fd : FuncData} (Fn : Fun K "forgotten" "forgotten" s_forgotten f fd) : Binds K fd ["jar", "house"] [] := Fn.binds fun _ _ _ _ _ _ us hl => match us, hl with | [_, _], _ => rfl
abbrev s_need_moment : Stmt := top 30
theorem sc_need_moment : FnScope ["thing"] ["thing"] (defScope s_need_moment) := ⟨rfl, rfl, rfl, by decide +kernel, rfl, by decide +kernel, by decide +kernel⟩
theorem bd_need_moment {K : PySem.W.Frag} {f : Addr} {fd : FuncData} (Fn : Fun K "need_moment" "need_moment" s_need_moment f fd) : Binds K fd ["thing"] [] := Fn.binds fun _ _ _ _ _ _ us hl => match us, hl with | [_], _ => rfl
abbrev s_has_ended : Stmt := top 53
theorem sc_has_ended : FnScope ["note", "now"] ["note", "now"] (defScope s_has_ended) := ⟨rfl, rfl, rfl, by decide +kernel, rfl, by decide +kernel, by decide +kernel⟩
theorem bd_has_ended {K : PySem.W.Frag} {f : Addr} {fd : FuncData} (Fn : Fun K "has_ended" "has_ended" s_has_ended f fd) : Binds K fd ["note", "now"] [] := Fn.binds fun _ _ _ _ _ _ us hl => match us, hl with | [_, _], _ => rfl
abbrev s_without_ended : Stmt := top 61
theorem sc_without_ended : FnScope ["notes", "now"] ["notes", "now"] (defScope s_without_ended) := ⟨rfl, rfl, rfl, by decide +kernel, rfl, by decide +kernel, by decide +kernel⟩
theorem bd_without_ended {K : PySem.W.Frag} {f : Addr} {fd : FuncData} (Fn : Fun K "without_ended" "without_ended" s_without_ended f fd) : Binds K fd ["notes", "now"] [] := Fn.binds fun _ _ _ _ _ _ us hl => match us, hl with | [_, _], _ => rfl
abbrev s_swept : Stmt := top 60
theorem sc_swept : FnScope ["jar", "now"] ["jar", "now"] (defScope s_swept) := ⟨rfl, rfl, rfl, by decide +kernel, rfl, by decide +kernel, by decide +kernel⟩
theorem bd_swept {K : PySem.W.Frag} {f : Addr} {fd : FuncData} (Fn : Fun K "swept" "swept" s_swept f fd) : Binds K fd ["jar", "now"] [] := Fn.binds fun _ _ _ _ _ _ us hl => match us, hl with | [_, _], _ => rfl
abbrev s__law_told : Stmt := top 79
theorem sc__law_told : FnScope ["_law_way", "_law_jar_here", "_law_thing", "_law_e"] ["_law_way", "_law_jar_here", "_law_thing"] (defScope s__law_told) := ⟨rfl, rfl, rfl, by decide +kernel, rfl, by decide +kernel, by decide +kernel⟩
theorem bd__law_told {K : PySem.W.Frag} {f : Addr} {fd : FuncData} (Fn : Fun K "_law_told" "_law_told" s__law_told f fd) : Binds K fd ["_law_way", "_law_jar_here", "_law_thing"] [] := Fn.binds fun _ _ _ _ _ _ us hl => match us, hl with | [_, _, _], _ => rfl
abbrev s__law_within : Stmt := top 74
theorem sc__law_within : FnScope ["_law_one", "_law_other"] ["_law_one", "_law_other"] (defScope s__law_within) := ⟨rfl, rfl, rfl, by decide +kernel, rfl, by decide +kernel, by decide +kernel⟩
theorem bd__law_within {K : PySem.W.Frag} {f : Addr} {fd : FuncData} (Fn : Fun K "_law_within" "_law_within" s__law_within f fd) : Binds K fd ["_law_one", "_law_other"] [] := Fn.binds fun _ _ _ _ _ _ us hl => match us, hl with | [_, _], _ => rfl
abbrev s_put : Stmt := top 63
theorem sc_put : FnScope ["jar", "note", "same", "newer"] ["jar", "note"] (defScope s_put) := ⟨rfl, rfl, rfl, by decide +kernel, rfl, by decide +kernel, by decide +kernel⟩
theorem bd_put {K : PySem.W.Frag} {f : Addr} {fd : FuncData} (Fn : Fun K "put" "put" s_put f fd) : Binds K fd ["jar", "note"] [] := Fn.binds fun _ _ _ _ _ _ us hl => match us, hl with | [_, _], _ => rfl
abbrev s_law : Stmt := top 82
theorem sc_law : FnScope ["_law_script", "_law_jar_here", "_law_more", "_law_at", "_law_odd", "_law_things", "_law_thing", "_law_told_here", "_law_now", "_law_house", "_law_last", "_law_note", "_law_late", "_law_due", "_law_places"] ["_law_script"] (defScope s_law) := ⟨rfl, rfl, rfl, by decide +kernel, rfl, by decide +kernel, by decide +kernel⟩
def B__law_cell : FnS := (fSeq (fIfS (fB (f2 scrD (fVar 0) (fLst aNil))) (fRet (f2 mulD (fC (.int 7)) (fVar 1))) (fun ρ => some (.nx ρ))) (fRet (f2 addD (f2 ixD (fVar 0) (f2 modD (fVar 1) (fB1 lenD (aCons (fVar 0) aNil)))) (f2 mulD (fC (.int 6553)) (f2 fdivD (fVar 1) (fB1 lenD (aCons (fVar 0) aNil)))))))
def F__law_cell : List Dv → Option (Rs Dv) := runF 2 B__law_cell
set_option maxHeartbeats 4000000 in
theorem fn__law_cell {P : Program} {w : World} {K : PySem.W.Frag} {mg : Str → Option Value} {base : Heap} {f : Addr} {fd : FuncData} (Fn : Fun K "_law_cell" "_law_cell" s__law_cell f fd) (m_len : mg "len" = none) :
    FnOk P w K mg base CX0 1 f fd ["_law_script", "_law_k"] (spF K F__law_cell 2) :=
  fn_ok2 (k := 0) ["_law_script", "_law_k"] ["_law_script", "_law_k"] B__law_cell (by kernel_rfl) (by kernel_rfl) Fn sc__law_cell fun cdv A outer s H E hr => (fss_cons (fs_if (ft_cmp (o_scr hr.units0) g_scr (fe_lv 0) (fe_lst fa_nil) (nomark _)) (fss_one (fs_ret (fe_op op_mul g_mul fe_int (fe_lv 1)))) fss_nil) (fss_one (fs_ret (fe_op o_add g_add (fe_ix (fe_lv 0) (fe_op op_mod g_mod (fe_lv 1) (fe_len (glb (by kernel_rfl)) m_len (fa_cons (fe_lv 0) fa_nil)))) (fe_op op_mul g_mul fe_int (fe_op op_fdiv g_fdiv (fe_lv 1) (fe_len (glb (by kernel_rfl)) m_len (fa_cons (fe_lv 0) fa_nil))))))))
def B__law_drawn : FnS := (fSeq (fSet 3 (f2 modD (f2 addD (f2 mulD (f2 modD (fCall F__law_cell 2 (aCons (fVar 0) (aCons (fVar 1) aNil))) (fC (.int 2147483563))) (fC (.int 69069))) (f2 mulD (fC (.int 104723)) (f2 addD (fVar 1) (fC (.int 1))))) (fC (.int 2147483563)))) (fSeq (fSet 3 (f2 modD (f2 addD (f2 mulD (fVar 3) (fVar 3)) (f2 fdivD (fVar 3) (fC (.int 3)))) (fC (.int 2147483399)))) (fRet (f2 modD (f2 fdivD (f2 modD (f2 addD (f2 mulD (fVar 3) (fVar 3)) (f2 fdivD (fVar 3) (fC (.int 7)))) (fC (.int 2147483647))) (fC (.int 11))) (fVar 2)))))
def F__law_drawn : List Dv → Option (Rs Dv) := runF 4 B__law_drawn
set_option maxHeartbeats 4000000 in
theorem fn__law_drawn {P : Program} {w : World} {K : PySem.W.Frag} {mg : Str → Option Value} {base : Heap} {f : Addr} {fd : FuncData} (Fn : Fun K "_law_drawn" "_law_drawn" s__law_drawn f fd) (h__law_cell : Has P w K mg base "_law_cell" 1 ["_law_script", "_law_k"] F__law_cell) :
    FnOk P w K mg base CX0 2 f fd ["_law_script", "_law_k", "_law_many_here"] (spF K F__law_drawn 3) :=
  fn_ok2 (k := 1) ["_law_script", "_law_k", "_law_many_here", "_law_cell_here"] ["_law_script", "_law_k", "_law_many_here"] B__law_drawn (by kernel_rfl) (by kernel_rfl) Fn sc__law_drawn fun cdv A outer s H E hr => (fss_cons (fs_set 3 sc__law_drawn.nd (by kernel_rfl) (.inl (by kernel_rfl)) (fe_op op_mod g_mod (fe_op o_add g_add (fe_op op_mul g_mul (fe_op op_mod g_mod (fe_callH (k' := 1) 1 ["_law_script", "_law_k"] F__law_cell h__law_cell hr (by decide) (glb (by kernel_rfl)) (fa_cons (fe_lv 0) (fa_cons (fe_lv 1) fa_nil))) fe_int) fe_int) (fe_op op_mul g_mul fe_int (fe_op o_add g_add (fe_lv 1) fe_int))) fe_int)) (fss_cons (fs_set 3 sc__law_drawn.nd (by kernel_rfl) (.inl (by kernel_rfl)) (fe_op op_mod g_mod (fe_op o_add g_add (fe_op op_mul g_mul (fe_lv 3) (fe_lv 3)) (fe_op op_fdiv g_fdiv (fe_lv 3) fe_int)) fe_int)) (fss_one (fs_ret (fe_op op_mod g_mod (fe_op op_fdiv g_fdiv (fe_op op_mod g_mod (fe_op o_add g_add (fe_op op_mul g_mul (fe_lv 3) (fe_lv 3)) (fe_op op_fdiv g_fdiv (fe_lv 3) fe_int)) fe_int) fe_int) (fe_lv 2))))))
def B_is_whole_number : FnS := (fSeq (fIfS (bOr (bNot (fB (f1 (isiD tbInt) (fVar 0)))) (fB (f1 (isiD tbBool) (fVar 0)))) (fRet (fC (.bl false))) (fun ρ => some (.nx ρ))) (fRet (vAnd (f2 leX (fVar 1) (fVar 0)) (f2 leX (fVar 0) (fVar 2)))))
def F_is_whole_number : List Dv → Option (Rs Dv) := runF 3 B_is_whole_number
set_option maxHeartbeats 4000000 in
theorem fn_is_whole_number {P : Program} {w : World} {K : PySem.W.Frag} {mg : Str → Option Value} {base : Heap} {f : Addr} {fd : FuncData} (Fn : Fun K "is_whole_number" "is_whole_number" s_is_whole_number f fd) (m_bool : mg "bool" = none) (m_int : mg "int" = none) (m_isinstance : mg "isinstance" = none) :
    FnOk P w K mg base CX0 1 f fd ["thing", "least", "most"] (spF K F_is_whole_number 3) :=
  fn_ok2 (k := 0) ["thing", "least", "most"] ["thing", "least", "most"] B_is_whole_number (by kernel_rfl) (by kernel_rfl) Fn sc_is_whole_number fun cdv A outer s H E hr => (fss_cons (fs_if (FW.ft (fw_or (ft_not (ft_val (fe_isi (T := "int") kit_int bt_int (by decide +kernel) (by kernel_rfl) (glb (by kernel_rfl)) m_isinstance (glb (by kernel_rfl)) m_int (fe_lv 0)))) (fw_or1 (ft_val (fe_isi (T := "bool") kit_bool bt_bool (by decide +kernel) (by kernel_rfl) (glb (by kernel_rfl)) m_isinstance (glb (by kernel_rfl)) m_bool (fe_lv 0)))))) (fss_one (fs_ret fe_bl)) fss_nil) (fss_one (fs_ret (fe_and (fe_cmp o_leX g_leX (fe_lv 1) (fe_lv 0) (nomark _)) (fe_one (fe_cmp o_leX g_leX (fe_lv 0) (fe_lv 2) (nomark _)))))))
def B_is_moment : FnS := (fRet (fCall F_is_whole_number 3 (aCons (fVar 0) (aCons (fC (.int 0)) (aCons (fC (.int 9999)) aNil)))))
def F_is_moment : List Dv → Option (Rs Dv) := runF 1 B_is_moment
set_option maxHeartbeats 4000000 in
theorem fn_is_moment {P : Program} {w : World} {K : PySem.W.Frag} {mg : Str → Option Value} {base : Heap} {f : Addr} {fd : FuncData} (Fn : Fun K "is_moment" "is_moment" s_is_moment f fd) (h_is_whole_number : Has P w K mg base "is_whole_number" 1 ["thing", "least", "most"] F_is_whole_number) {t_LAST_MOMENT : Tok} (m_LAST_MOMENT : mg "LAST_MOMENT" = some (.int 9999 t_LAST_MOMENT)) :
    FnOk P w K mg base CX0 2 f fd ["thing"] (spF K F_is_moment 1) :=
  fn_ok2 (k := 1) ["thing"] ["thing"] B_is_moment (by kernel_rfl) (by kernel_rfl) Fn sc_is_moment fun cdv A outer s H E hr => (fss_one (fs_ret (fe_callH (k' := 1) 1 ["thing", "least", "most"] F_is_whole_number h_is_whole_number hr (by decide) (glb (by kernel_rfl)) (fa_cons (fe_lv 0) (fa_cons fe_int (fa_cons (fe_gint (glb (by kernel_rfl)) m_LAST_MOMENT) fa_nil))))))
def B_is_moment_or_none : FnS := (fRet (vOr (f2 isN (fVar 0) (fC .non)) (fCall F_is_moment 1 (aCons (fVar 0) aNil))))
def F_is_moment_or_none : List Dv → Option (Rs Dv) := runF 1 B_is_moment_or_none
set_option maxHeartbeats 4000000 in
theorem fn_is_moment_or_none {P : Program} {w : World} {K : PySem.W.Frag} {mg : Str → Option Value} {base : Heap} {f : Addr} {fd : FuncData} (Fn : Fun K "is_moment_or_none" "is_moment_or_none" s_is_moment_or_none f fd) (h_is_moment : Has P w K mg base "is_moment" 2 ["thing"] F_is_moment) :
    FnOk P w K mg base CX0 3 f fd ["thing"] (spF K F_is_moment_or_none 1) :=
  fn_ok2 (k := 2) ["thing"] ["thing"] B_is_moment_or_none (by kernel_rfl) (by kernel_rfl) Fn sc_is_moment_or_none fun cdv A outer s H E hr => (fss_one (fs_ret (fe_or (fe_cmp op_isN g_isN (fe_lv 0) fe_non (nomark _)) (fe_one (fe_callH (k' := 2) 2 ["thing"] F_is_moment h_is_moment hr (by decide) (glb (by kernel_rfl)) (fa_cons (fe_lv 0) fa_nil))))))
def B_is_text_of : FnS := (fSeq (fIfS (bNot (fB (f1 (isiD tbStr) (fVar 0)))) (fRet (fC (.bl false))) (fun ρ => some (.nx ρ))) (fSeq (fIfS (bOr (fB (f2 ltX (fB1 lenD (aCons (fVar 0) aNil)) (fVar 2))) (fB (f2 gtD (fB1 lenD (aCons (fVar 0) aNil)) (fVar 3)))) (fRet (fC (.bl false))) (fun ρ => some (.nx ρ))) (fRet (fB1 allD (aCons (fComp [("signs", 1)] (iSeq (fVar 0)) none (f2 inD (fVar 0) (fVar 1))) aNil)))))
def F_is_text_of : List Dv → Option (Rs Dv) := runF 4 B_is_text_of
set_option maxHeartbeats 4000000 in
theorem fn_is_text_of {P : Program} {w : World} {K : PySem.W.Frag} {mg : Str → Option Value} {base : Heap} {f : Addr} {fd : FuncData} (Fn : Fun K "is_text_of" "is_text_of" s_is_text_of f fd) (m_all : mg "all" = none) (m_isinstance : mg "isinstance" = none) (m_len : mg "len" = none) (m_str : mg "str" = none) :
    FnOk P w K mg base CX0 1 f fd ["thing", "signs", "least", "most"] (spF K F_is_text_of 4) :=
  fn_ok2 (k := 0) ["thing", "signs", "least", "most"] ["thing", "signs", "least", "most"] B_is_text_of (by kernel_rfl) (by kernel_rfl) Fn sc_is_text_of fun cdv A outer s H E hr => (fss_cons (fs_if (ft_not (ft_val (fe_isi (T := "str") kit_str bt_str (by decide +kernel) (by kernel_rfl) (glb (by kernel_rfl)) m_isinstance (glb (by kernel_rfl)) m_str (fe_lv 0)))) (fss_one (fs_ret fe_bl)) fss_nil) (fss_cons (fs_if (FW.ft (fw_or (ft_cmp o_ltX g_ltX (fe_len (glb (by kernel_rfl)) m_len (fa_cons (fe_lv 0) fa_nil)) (fe_lv 2) (nomark _)) (fw_or1 (ft_cmp op_gt (g_cmp _) (fe_len (glb (by kernel_rfl)) m_len (fa_cons (fe_lv 0) fa_nil)) (fe_lv 3) (nomark _))))) (fss_one (fs_ret fe_bl)) fss_nil) (fss_one (fs_ret (fe_all rfl (glb (by kernel_rfl)) m_all (fa_cons (fe_compF (defScope s_is_text_of) ["thing", "signs", "least", "most"] ["sign"] [0] [("signs", 1)] (by kernel_rfl) (by kernel_rfl) ⟨by kernel_rfl, by decide +kernel, by decide +kernel, by decide +kernel, by decide +kernel⟩ (by kernel_rfl) rfl (back1 _) (FI.toG (fi_seq (fe_lv 0))) (fun _ _ _ _ => fg_name 0 (show (["sign", "signs"] : List Str).Nodup by decide +kernel) (by kernel_rfl) (.inl (by kernel_rfl)) (.inr (by kernel_rfl))) (fun _ _ _ _ => (fe_cmp o_in g_in (fe_lv 0) (fe_cv 1) (by kernel_rfl))) (fun _ _ _ _ => rfl)) fa_nil))))))
def B_is_label : FnS := (fSeq (fIfS (bNot (fB (fCall F_is_text_of 4 (aCons (fVar 0) (aCons (fC (.str "abcdefghijklmnopqrstuvwxyz0123456789-")) (aCons (fC (.int 1)) (aCons (fC (.int 8)) aNil))))))) (fRet (fC (.bl false))) (fun ρ => some (.nx ρ))) (fRet (vAnd (vNot (fM (strB Txt.startswith) (fVar 0) (aCons (fC (.str "-")) aNil))) (vNot (fM (strB Txt.endswith) (fVar 0) (aCons (fC (.str "-")) aNil))))))
def F_is_label : List Dv → Option (Rs Dv) := runF 1 B_is_label
set_option maxHeartbeats 4000000 in
theorem fn_is_label {P : Program} {w : World} {K : PySem.W.Frag} {mg : Str → Option Value} {base : Heap} {f : Addr} {fd : FuncData} (Fn : Fun K "is_label" "is_label" s_is_label f fd) (h_is_text_of : Has P w K mg base "is_text_of" 1 ["thing", "signs", "least", "most"] F_is_text_of) {t_LABEL_SIGNS : Tok} (m_LABEL_SIGNS : mg "LABEL_SIGNS" = some (.str (Str.ofString "abcdefghijklmnopqrstuvwxyz0123456789-") t_LABEL_SIGNS)) {t_LONGEST_LABEL : Tok} (m_LONGEST_LABEL : mg "LONGEST_LABEL" = some (.int 8 t_LONGEST_LABEL)) :
    FnOk P w K mg base CX0 2 f fd ["thing"] (spF K F_is_label 1) :=
  fn_ok2 (k := 1) ["thing"] ["thing"] B_is_label (by kernel_rfl) (by kernel_rfl) Fn sc_is_label fun cdv A outer s H E hr => (fss_cons (fs_if (ft_not (ft_val (fe_callH (k' := 1) 1 ["thing", "signs", "least", "most"] F_is_text_of h_is_text_of hr (by decide) (glb (by kernel_rfl)) (fa_cons (fe_lv 0) (fa_cons (fe_gstr (glb (by kernel_rfl)) m_LABEL_SIGNS) (fa_cons fe_int (fa_cons (fe_gint (glb (by kernel_rfl)) m_LONGEST_LABEL) fa_nil))))))) (fss_one (fs_ret fe_bl)) fss_nil) (fss_one (fs_ret (fe_and (fe_not (fe_strM PySem.F.slot_str_startswith PySem.F.type_str_startswith mt_sw g_strB (fe_lv 0) (fa_cons fe_str fa_nil))) (fe_one (fe_not (fe_strM PySem.F.slot_str_endswith PySem.F.type_str_endswith mt_ew g_strB (fe_lv 0) (fa_cons fe_str fa_nil))))))))
def B_is_name : FnS := (fSeq (fIfS (bNot (fB (f1 (isiD tbStr) (fVar 0)))) (fRet (fC (.bl false))) (fun ρ => some (.nx ρ))) (fSeq (fSet 1 (fM (splitD) (fVar 0) (aCons (fC (.str ".")) aNil))) (fSeq (fIfS (bOr (fB (f2 gtD (fB1 lenD (aCons (fVar 1) aNil)) (fC (.int 5)))) (bNot (fB (fB1 allD (aCons (fComp [] (iSeq (fVar 1)) none (fCall F_is_label 1 (aCons (fVar 0) aNil))) aNil))))) (fRet (fC (.bl false))) (fun ρ => some (.nx ρ))) (fRet (vNot (fCall F_is_text_of 4 (aCons (f2 ixD (fVar 1) (f1 negD (fC (.int 1)))) (aCons (fC (.str "0123456789")) (aCons (fC (.int 1)) (aCons (fC (.int 8)) aNil))))))))))
def F_is_name : List Dv → Option (Rs Dv) := runF 2 B_is_name
set_option maxHeartbeats 4000000 in
theorem fn_is_name {P : Program} {w : World} {K : PySem.W.Frag} {mg : Str → Option Value} {base : Heap} {f : Addr} {fd : FuncData} (Fn : Fun K "is_name" "is_name" s_is_name f fd) (h_is_label : Has P w K mg base "is_label" 2 ["thing"] F_is_label) (h_is_text_of : Has P w K mg base "is_text_of" 1 ["thing", "signs", "least", "most"] F_is_text_of) (m_all : mg "all" = none) (m_isinstance : mg "isinstance" = none) (m_len : mg "len" = none) (m_str : mg "str" = none) {t_FIGURES : Tok} (m_FIGURES : mg "FIGURES" = some (.str (Str.ofString "0123456789") t_FIGURES)) {t_LONGEST_LABEL : Tok} (m_LONGEST_LABEL : mg "LONGEST_LABEL" = some (.int 8 t_LONGEST_LABEL)) {t_MOST_LABELS : Tok} (m_MOST_LABELS : mg "MOST_LABELS" = some (.int 5 t_MOST_LABELS)) :
    FnOk P w K mg base CX0 3 f fd ["thing"] (spF K F_is_name 1) :=
  fn_ok2 (k := 2) ["thing", "parts"] ["thing"] B_is_name (by kernel_rfl) (by kernel_rfl) Fn sc_is_name fun cdv A outer s H E hr => (fss_cons (fs_if (ft_not (ft_val (fe_isi (T := "str") kit_str bt_str (by decide +kernel) (by kernel_rfl) (glb (by kernel_rfl)) m_isinstance (glb (by kernel_rfl)) m_str (fe_lv 0)))) (fss_one (fs_ret fe_bl)) fss_nil) (fss_cons (fs_set 1 sc_is_name.nd (by kernel_rfl) (.inl (by kernel_rfl)) (fe_strM PySem.F.slot_str_split PySem.F.type_str_split mt_split g_split (fe_lv 0) (fa_cons fe_str fa_nil))) (fss_cons (fs_if (FW.ft (fw_or (ft_cmp op_gt (g_cmp _) (fe_len (glb (by kernel_rfl)) m_len (fa_cons (fe_lv 1) fa_nil)) (fe_gint (glb (by kernel_rfl)) m_MOST_LABELS) (nomark _)) (fw_or1 (ft_not (ft_val (fe_all rfl (glb (by kernel_rfl)) m_all (fa_cons (fe_compF (defScope s_is_name) ["thing", "parts"] ["part"] [0] [] (by kernel_rfl) (by kernel_rfl) ⟨by kernel_rfl, by decide +kernel, by decide +kernel, by decide +kernel, by decide +kernel⟩ (by kernel_rfl) rfl (back1 _) (FI.toG (fi_seq (fe_lv 1))) (fun _ _ _ _ => fg_name 0 (show (["part"] : List Str).Nodup by decide +kernel) (by kernel_rfl) (.inl (by kernel_rfl)) (.inr (by kernel_rfl))) (fun _ _ _ _ => (fe_callH (k' := 2) 2 ["thing"] F_is_label h_is_label hr (by decide) (glb (by kernel_rfl)) (fa_cons (fe_lv 0) fa_nil))) (fun _ _ _ _ => rfl)) fa_nil))))))) (fss_one (fs_ret fe_bl)) fss_nil) (fss_one (fs_ret (fe_not (fe_callH (k' := 2) 1 ["thing", "signs", "least", "most"] F_is_text_of h_is_text_of hr (by decide) (glb (by kernel_rfl)) (fa_cons (fe_ix (fe_lv 1) (fe_neg fe_int)) (fa_cons (fe_gstr (glb (by kernel_rfl)) m_FIGURES) (fa_cons fe_int (fa_cons (fe_gint (glb (by kernel_rfl)) m_LONGEST_LABEL) fa_nil)))))))))))
def B_is_note_name : FnS := (fRet (fCall F_is_text_of 4 (aCons (fVar 0) (aCons (fC (.str "abcdefghijklmnopqrstuvwxyzABCDEFGHIJKLMNOPQRSTUVWXYZ0123456789-_")) (aCons (fC (.int 1)) (aCons (fC (.int 10)) aNil))))))
def F_is_note_name : List Dv → Option (Rs Dv) := runF 1 B_is_note_name
set_option maxHeartbeats 4000000 in
theorem fn_is_note_name {P : Program} {w : World} {K : PySem.W.Frag} {mg : Str → Option Value} {base : Heap} {f : Addr} {fd : FuncData} (Fn : Fun K "is_note_name" "is_note_name" s_is_note_name f fd) (h_is_text_of : Has P w K mg base "is_text_of" 1 ["thing", "signs", "least", "most"] F_is_text_of) {t_LONGEST_NOTE_NAME : Tok} (m_LONGEST_NOTE_NAME : mg "LONGEST_NOTE_NAME" = some (.int 10 t_LONGEST_NOTE_NAME)) {t_NOTE_NAME_SIGNS : Tok} (m_NOTE_NAME_SIGNS : mg "NOTE_NAME_SIGNS" = some (.str (Str.ofString "abcdefghijklmnopqrstuvwxyzABCDEFGHIJKLMNOPQRSTUVWXYZ0123456789-_") t_NOTE_NAME_SIGNS)) :
    FnOk P w K mg base CX0 2 f fd ["thing"] (spF K F_is_note_name 1) :=
  fn_ok2 (k := 1) ["thing"] ["thing"] B_is_note_name (by kernel_rfl) (by kernel_rfl) Fn sc_is_note_name fun cdv A outer s H E hr => (fss_one (fs_ret (fe_callH (k' := 1) 1 ["thing", "signs", "least", "most"] F_is_text_of h_is_text_of hr (by decide) (glb (by kernel_rfl)) (fa_cons (fe_lv 0) (fa_cons (fe_gstr (glb (by kernel_rfl)) m_NOTE_NAME_SIGNS) (fa_cons fe_int (fa_cons (fe_gint (glb (by kernel_rfl)) m_LONGEST_NOTE_NAME) fa_nil)))))))
def B_is_path : FnS := (fRet (vAnd (fCall F_is_text_of 4 (aCons (fVar 0) (aCons (fC (.str "abcdefghijklmnopqrstuvwxyz0123456789-_./")) (aCons (fC (.int 1)) (aCons (fC (.int 20)) aNil))))) (fM (strB Txt.startswith) (fVar 0) (aCons (fC (.str "/")) aNil))))
def F_is_path : List Dv → Option (Rs Dv) := runF 1 B_is_path
set_option maxHeartbeats 4000000 in
theorem fn_is_path {P : Program} {w : World} {K : PySem.W.Frag} {mg : Str → Option Value} {base : Heap} {f : Addr} {fd : FuncData} (Fn : Fun K "is_path" "is_path" s_is_path f fd) (h_is_text_of : Has P w K mg base "is_text_of" 1 ["thing", "signs", "least", "most"] F_is_text_of) {t_LONGEST_PATH : Tok} (m_LONGEST_PATH : mg "LONGEST_PATH" = some (.int 20 t_LONGEST_PATH)) {t_PATH_SIGNS : Tok} (m_PATH_SIGNS : mg "PATH_SIGNS" = some (.str (Str.ofString "abcdefghijklmnopqrstuvwxyz0123456789-_./") t_PATH_SIGNS)) :
    FnOk P w K mg base CX0 2 f fd ["thing"] (spF K F_is_path 1) :=
  fn_ok2 (k := 1) ["thing"] ["thing"] B_is_path (by kernel_rfl) (by kernel_rfl) Fn sc_is_path fun cdv A outer s H E hr => (fss_one (fs_ret (fe_and (fe_callH (k' := 1) 1 ["thing", "signs", "least", "most"] F_is_text_of h_is_text_of hr (by decide) (glb (by kernel_rfl)) (fa_cons (fe_lv 0) (fa_cons (fe_gstr (glb (by kernel_rfl)) m_PATH_SIGNS) (fa_cons fe_int (fa_cons (fe_gint (glb (by kernel_rfl)) m_LONGEST_PATH) fa_nil))))) (fe_one (fe_strM PySem.F.slot_str_startswith PySem.F.type_str_startswith mt_sw g_strB (fe_lv 0) (fa_cons fe_str fa_nil))))))
def B_is_reach : FnS := (fRet (vOr (f2 eqX (fVar 0) (fC (.str "any"))) (f2 eqX (fVar 0) (fC (.str "near")))))
def F_is_reach : List Dv → Option (Rs Dv) := runF 1 B_is_reach
set_option maxHeartbeats 4000000 in
theorem fn_is_reach {P : Program} {w : World} {K : PySem.W.Frag} {mg : Str → Option Value} {base : Heap} {f : Addr} {fd : FuncData} (Fn : Fun K "is_reach" "is_reach" s_is_reach f fd) :
    FnOk P w K mg base CX0 1 f fd ["thing"] (spF K F_is_reach 1) :=
  fn_ok2 (k := 0) ["thing"] ["thing"] B_is_reach (by kernel_rfl) (by kernel_rfl) Fn sc_is_reach fun cdv A outer s H E hr => (fss_one (fs_ret (fe_or (fe_cmp (o_eqX hr.units) g_eqX (fe_lv 0) fe_str (nomark _)) (fe_one (fe_cmp (o_eqX hr.units) g_eqX (fe_lv 0) fe_str (nomark _))))))
def B_is_tuple_of : FnS := (fRet (vAnd (f1 (isiD tbTup) (fVar 0)) (f2 eqX (fB1 lenD (aCons (fVar 0) aNil)) (fVar 1))))
def F_is_tuple_of : List Dv → Option (Rs Dv) := runF 2 B_is_tuple_of
set_option maxHeartbeats 4000000 in
theorem fn_is_tuple_of {P : Program} {w : World} {K : PySem.W.Frag} {mg : Str → Option Value} {base : Heap} {f : Addr} {fd : FuncData} (Fn : Fun K "is_tuple_of" "is_tuple_of" s_is_tuple_of f fd) (m_isinstance : mg "isinstance" = none) (m_len : mg "len" = none) (m_tuple : mg "tuple" = none) :
    FnOk P w K mg base CX0 1 f fd ["thing", "parts"] (spF K F_is_tuple_of 2) :=
  fn_ok2 (k := 0) ["thing", "parts"] ["thing", "parts"] B_is_tuple_of (by kernel_rfl) (by kernel_rfl) Fn sc_is_tuple_of fun cdv A outer s H E hr => (fss_one (fs_ret (fe_and (fe_isi (T := "tuple") kit_tup bt_tuple (by decide +kernel) (by kernel_rfl) (glb (by kernel_rfl)) m_isinstance (glb (by kernel_rfl)) m_tuple (fe_lv 0)) (fe_one (fe_cmp (o_eqX hr.units) g_eqX (fe_len (glb (by kernel_rfl)) m_len (fa_cons (fe_lv 0) fa_nil)) (fe_lv 1) (nomark _))))))
def B_is_worth : FnS := (fSeq (fIfS (bOr (bNot (fB (f1 (isiD tbStr) (fVar 0)))) (fB (f2 gtD (fB1 lenD (aCons (fVar 0) aNil)) (fC (.int 12))))) (fRet (fC (.bl false))) (fun ρ => some (.nx ρ))) (fRet (fB1 allD (aCons (fComp [] (iSeq (fVar 0)) none (vAnd (f2 leX (fC (.str "!")) (fVar 0)) (vAnd (f2 leX (fVar 0) (fC (.str "~"))) (f2 notInD (fVar 0) (fC (.str ";,=")))))) aNil))))
def F_is_worth : List Dv → Option (Rs Dv) := runF 1 B_is_worth
set_option maxHeartbeats 4000000 in
theorem fn_is_worth {P : Program} {w : World} {K : PySem.W.Frag} {mg : Str → Option Value} {base : Heap} {f : Addr} {fd : FuncData} (Fn : Fun K "is_worth" "is_worth" s_is_worth f fd) (m_all : mg "all" = none) (m_isinstance : mg "isinstance" = none) (m_len : mg "len" = none) (m_str : mg "str" = none) {t_LONGEST_WORTH : Tok} (m_LONGEST_WORTH : mg "LONGEST_WORTH" = some (.int 12 t_LONGEST_WORTH)) {t_NO_WORTH_SIGNS : Tok} (m_NO_WORTH_SIGNS : mg "NO_WORTH_SIGNS" = some (.str (Str.ofString ";,=") t_NO_WORTH_SIGNS)) :
    FnOk P w K mg base CX0 1 f fd ["thing"] (spF K F_is_worth 1) :=
  fn_ok2 (k := 0) ["thing"] ["thing"] B_is_worth (by kernel_rfl) (by kernel_rfl) Fn sc_is_worth fun cdv A outer s H E hr => (fss_cons (fs_if (FW.ft (fw_or (ft_not (ft_val (fe_isi (T := "str") kit_str bt_str (by decide +kernel) (by kernel_rfl) (glb (by kernel_rfl)) m_isinstance (glb (by kernel_rfl)) m_str (fe_lv 0)))) (fw_or1 (ft_cmp op_gt (g_cmp _) (fe_len (glb (by kernel_rfl)) m_len (fa_cons (fe_lv 0) fa_nil)) (fe_gint (glb (by kernel_rfl)) m_LONGEST_WORTH) (nomark _))))) (fss_one (fs_ret fe_bl)) fss_nil) (fss_one (fs_ret (fe_all rfl (glb (by kernel_rfl)) m_all (fa_cons (fe_compF (defScope s_is_worth) ["thing"] ["sign"] [0] [] (by kernel_rfl) (by kernel_rfl) ⟨by kernel_rfl, by decide +kernel, by decide +kernel, by decide +kernel, by decide +kernel⟩ (by kernel_rfl) rfl (back1 _) (FI.toG (fi_seq (fe_lv 0))) (fun _ _ _ _ => fg_name 0 (show (["sign"] : List Str).Nodup by decide +kernel) (by kernel_rfl) (.inl (by kernel_rfl)) (.inr (by kernel_rfl))) (fun _ _ _ _ => (fe_and (fe_cmp o_leX g_leX fe_str (fe_lv 0) (nomark _)) (fe_and (fe_cmp o_leX g_leX (fe_lv 0) fe_str (nomark _)) (fe_one (fe_cmp o_notIn g_notIn (fe_lv 0) (fe_gstr (glb (by kernel_rfl)) m_NO_WORTH_SIGNS) (by kernel_rfl)))))) (fun _ _ _ _ => rfl)) fa_nil)))))
def B_is_note : FnS := (fSeq (fIfS (bNot (fB (fCall F_is_tuple_of 2 (aCons (fVar 0) (aCons (fC (.int 10)) aNil))))) (fRet (fC (.bl false))) (fun ρ => some (.nx ρ))) (fSeq (fIfS (bOr (bNot (fB (fCall F_is_moment 1 (aCons (f2 ixD (fVar 0) (fC (.int 8))) aNil)))) (bNot (fB (fCall F_is_moment 1 (aCons (f2 ixD (fVar 0) (fC (.int 9))) aNil))))) (fRet (fC (.bl false))) (fun ρ => some (.nx ρ))) (fRet (fB1 allD (aCons (fLst (aCons (fCall F_is_note_name 1 (aCons (f2 ixD (fVar 0) (fC (.int 0))) aNil)) (aCons (fCall F_is_worth 1 (aCons (f2 ixD (fVar 0) (fC (.int 1))) aNil)) (aCons (fCall F_is_name 1 (aCons (f2 ixD (fVar 0) (fC (.int 2))) aNil)) (aCons (f1 (isiD tbBool) (f2 ixD (fVar 0) (fC (.int 3)))) (aCons (fCall F_is_path 1 (aCons (f2 ixD (fVar 0) (fC (.int 4))) aNil)) (aCons (fCall F_is_moment_or_none 1 (aCons (f2 ixD (fVar 0) (fC (.int 5))) aNil)) (aCons (f1 (isiD tbBool) (f2 ixD (fVar 0) (fC (.int 6)))) (aCons (fCall F_is_reach 1 (aCons (f2 ixD (fVar 0) (fC (.int 7))) aNil)) (aCons (f2 leX (f2 ixD (fVar 0) (fC (.int 8))) (f2 ixD (fVar 0) (fC (.int 9)))) aNil)))))))))) aNil)))))
def F_is_note : List Dv → Option (Rs Dv) := runF 1 B_is_note
set_option maxHeartbeats 4000000 in
theorem fn_is_note {P : Program} {w : World} {K : PySem.W.Frag} {mg : Str → Option Value} {base : Heap} {f : Addr} {fd : FuncData} (Fn : Fun K "is_note" "is_note" s_is_note f fd) (h_is_moment : Has P w K mg base "is_moment" 2 ["thing"] F_is_moment) (h_is_moment_or_none : Has P w K mg base "is_moment_or_none" 3 ["thing"] F_is_moment_or_none) (h_is_name : Has P w K mg base "is_name" 3 ["thing"] F_is_name) (h_is_note_name : Has P w K mg base "is_note_name" 2 ["thing"] F_is_note_name) (h_is_path : Has P w K mg base "is_path" 2 ["thing"] F_is_path) (h_is_reach : Has P w K mg base "is_reach" 1 ["thing"] F_is_reach) (h_is_tuple_of : Has P w K mg base "is_tuple_of" 1 ["thing", "parts"] F_is_tuple_of) (h_is_worth : Has P w K mg base "is_worth" 1 ["thing"] F_is_worth) (m_all : mg "all" = none) (m_bool : mg "bool" = none) (m_isinstance : mg "isinstance" = none) {t_NOTE_ENDS : Tok} (m_NOTE_ENDS : mg "NOTE_ENDS" = some (.int 5 t_NOTE_ENDS)) {t_NOTE_EXACT : Tok} (m_NOTE_EXACT : mg "NOTE_EXACT" = some (.int 3 t_NOTE_EXACT)) {t_NOTE_HOUSE : Tok} (m_NOTE_HOUSE : mg "NOTE_HOUSE" = some (.int 2 t_NOTE_HOUSE)) {t_NOTE_MADE : Tok} (m_NOTE_MADE : mg "NOTE_MADE" = some (.int 8 t_NOTE_MADE)) {t_NOTE_NAME : Tok} (m_NOTE_NAME : mg "NOTE_NAME" = some (.int 0 t_NOTE_NAME)) {t_NOTE_PARTS : Tok} (m_NOTE_PARTS : mg "NOTE_PARTS" = some (.int 10 t_NOTE_PARTS)) {t_NOTE_PATH : Tok} (m_NOTE_PATH : mg "NOTE_PATH" = some (.int 4 t_NOTE_PATH)) {t_NOTE_REACH : Tok} (m_NOTE_REACH : mg "NOTE_REACH" = some (.int 7 t_NOTE_REACH)) {t_NOTE_SAFE : Tok} (m_NOTE_SAFE : mg "NOTE_SAFE" = some (.int 6 t_NOTE_SAFE)) {t_NOTE_USED : Tok} (m_NOTE_USED : mg "NOTE_USED" = some (.int 9 t_NOTE_USED)) {t_NOTE_WORTH : Tok} (m_NOTE_WORTH : mg "NOTE_WORTH" = some (.int 1 t_NOTE_WORTH)) :
    FnOk P w K mg base CX0 4 f fd ["thing"] (spF K F_is_note 1) :=
  fn_ok2 (k := 3) ["thing"] ["thing"] B_is_note (by kernel_rfl) (by kernel_rfl) Fn sc_is_note fun cdv A outer s H E hr => (fss_cons (fs_if (ft_not (ft_val (fe_callH (k' := 3) 1 ["thing", "parts"] F_is_tuple_of h_is_tuple_of hr (by decide) (glb (by kernel_rfl)) (fa_cons (fe_lv 0) (fa_cons (fe_gint (glb (by kernel_rfl)) m_NOTE_PARTS) fa_nil))))) (fss_one (fs_ret fe_bl)) fss_nil) (fss_cons (fs_if (FW.ft (fw_or (ft_not (ft_val (fe_callH (k' := 3) 2 ["thing"] F_is_moment h_is_moment hr (by decide) (glb (by kernel_rfl)) (fa_cons (fe_ix (fe_lv 0) (fe_gint (glb (by kernel_rfl)) m_NOTE_MADE)) fa_nil)))) (fw_or1 (ft_not (ft_val (fe_callH (k' := 3) 2 ["thing"] F_is_moment h_is_moment hr (by decide) (glb (by kernel_rfl)) (fa_cons (fe_ix (fe_lv 0) (fe_gint (glb (by kernel_rfl)) m_NOTE_USED)) fa_nil))))))) (fss_one (fs_ret fe_bl)) fss_nil) (fss_one (fs_ret (fe_all rfl (glb (by kernel_rfl)) m_all (fa_cons (fe_lst (fa_cons (fe_callH (k' := 3) 2 ["thing"] F_is_note_name h_is_note_name hr (by decide) (glb (by kernel_rfl)) (fa_cons (fe_ix (fe_lv 0) (fe_gint (glb (by kernel_rfl)) m_NOTE_NAME)) fa_nil)) (fa_cons (fe_callH (k' := 3) 1 ["thing"] F_is_worth h_is_worth hr (by decide) (glb (by kernel_rfl)) (fa_cons (fe_ix (fe_lv 0) (fe_gint (glb (by kernel_rfl)) m_NOTE_WORTH)) fa_nil)) (fa_cons (fe_callH (k' := 3) 3 ["thing"] F_is_name h_is_name hr (by decide) (glb (by kernel_rfl)) (fa_cons (fe_ix (fe_lv 0) (fe_gint (glb (by kernel_rfl)) m_NOTE_HOUSE)) fa_nil)) (fa_cons (fe_isi (T := "bool") kit_bool bt_bool (by decide +kernel) (by kernel_rfl) (glb (by kernel_rfl)) m_isinstance (glb (by kernel_rfl)) m_bool (fe_ix (fe_lv 0) (fe_gint (glb (by kernel_rfl)) m_NOTE_EXACT))) (fa_cons (fe_callH (k' := 3) 2 ["thing"] F_is_path h_is_path hr (by decide) (glb (by kernel_rfl)) (fa_cons (fe_ix (fe_lv 0) (fe_gint (glb (by kernel_rfl)) m_NOTE_PATH)) fa_nil)) (fa_cons (fe_callH (k' := 3) 3 ["thing"] F_is_moment_or_none h_is_moment_or_none hr (by decide) (glb (by kernel_rfl)) (fa_cons (fe_ix (fe_lv 0) (fe_gint (glb (by kernel_rfl)) m_NOTE_ENDS)) fa_nil)) (fa_cons (fe_isi (T := "bool") kit_bool bt_bool (by decide +kernel) (by kernel_rfl) (glb (by kernel_rfl)) m_isinstance (glb (by kernel_rfl)) m_bool (fe_ix (fe_lv 0) (fe_gint (glb (by kernel_rfl)) m_NOTE_SAFE))) (fa_cons (fe_callH (k' := 3) 1 ["thing"] F_is_reach h_is_reach hr (by decide) (glb (by kernel_rfl)) (fa_cons (fe_ix (fe_lv 0) (fe_gint (glb (by kernel_rfl)) m_NOTE_REACH)) fa_nil)) (fa_cons (fe_cmp o_leX g_leX (fe_ix (fe_lv 0) (fe_gint (glb (by kernel_rfl)) m_NOTE_MADE)) (fe_ix (fe_lv 0) (fe_gint (glb (by kernel_rfl)) m_NOTE_USED)) (nomark _)) fa_nil)))))))))) fa_nil))))))
def B__law_is_jar : FnS := (fSeq (fIfS (bOr (bNot (fB (f1 (isiD tbTup) (fVar 0)))) (bOr (fB (f2 gtD (fB1 lenD (aCons (fVar 0) aNil)) (fC (.int 20)))) (fB (f2 neX (fComp [] (iSeq (fVar 0)) (some (bNot (fB (fCall F_is_note 1 (aCons (fVar 0) aNil))))) (fVar 0)) (fLst aNil))))) (fRet (fC (.bl false))) (fun ρ => some (.nx ρ))) (fSeq (fSet 1 (fCompG 1 [] (iSeq (fVar 0)) (gN 0) none (fTup (aCons (f2 ixD (fVar 0) (fC (.int 0))) (aCons (f2 ixD (fVar 0) (fC (.int 2))) (aCons (f2 ixD (fVar 0) (fC (.int 4))) aNil)))))) (fSeq (fSet 2 (fCompG 1 [] (iSeq (fVar 0)) (gN 0) none (f2 ixD (fVar 0) (fC (.int 8))))) (fRet (vAnd (f2 eqX (fB1 lenSetU (aCons (fVar 1) aNil)) (fB1 lenD (aCons (fVar 1) aNil))) (f2 eqX (fVar 2) (fB1 sortD (aCons (fVar 2) aNil))))))))
def F__law_is_jar : List Dv → Option (Rs Dv) := runF 3 B__law_is_jar
set_option maxHeartbeats 4000000 in
theorem fn__law_is_jar {P : Program} {w : World} {K : PySem.W.Frag} {mg : Str → Option Value} {base : Heap} {f : Addr} {fd : FuncData} (Fn : Fun K "_law_is_jar" "_law_is_jar" s__law_is_jar f fd) (h_is_note : Has P w K mg base "is_note" 4 ["thing"] F_is_note) (m_isinstance : mg "isinstance" = none) (m_len : mg "len" = none) (m_set : mg "set" = none) (m_sorted : mg "sorted" = none) (m_tuple : mg "tuple" = none) :
    FnOk P w K mg base CX0 5 f fd ["_law_thing"] (spF K F__law_is_jar 1) :=
  fn_ok2 (k := 4) ["_law_thing", "_law_keys", "_law_moments"] ["_law_thing"] B__law_is_jar (by kernel_rfl) (by kernel_rfl) Fn sc__law_is_jar fun cdv A outer s H E hr => (fss_cons (fs_if (FW.ft (fw_or (ft_not (ft_val (fe_isi (T := "tuple") kit_tup bt_tuple (by decide +kernel) (by kernel_rfl) (glb (by kernel_rfl)) m_isinstance (glb (by kernel_rfl)) m_tuple (fe_lv 0)))) (fw_or (ft_cmp op_gt (g_cmp _) (fe_len (glb (by kernel_rfl)) m_len (fa_cons (fe_lv 0) fa_nil)) fe_int (nomark _)) (fw_or1 (ft_cmp (o_neX hr.units) g_neX (fe_compF (defScope s__law_is_jar) ["_law_thing", "_law_keys", "_law_moments"] ["_law_one"] [0] [] (by kernel_rfl) (by kernel_rfl) ⟨by kernel_rfl, by decide +kernel, by decide +kernel, by decide +kernel, by decide +kernel⟩ (by kernel_rfl) rfl (back1 _) (FI.toG (fi_seq (fe_lv 0))) (fun _ _ _ _ => fg_name 0 (show (["_law_one"] : List Str).Nodup by decide +kernel) (by kernel_rfl) (.inl (by kernel_rfl)) (.inr (by kernel_rfl))) (fun _ _ _ _ => (fe_lv 0)) (fun _ _ _ _ => ⟨_, rfl, (ft_not (ft_val (fe_callH (k' := 4) 4 ["thing"] F_is_note h_is_note hr (by decide) (glb (by kernel_rfl)) (fa_cons (fe_lv 0) fa_nil))))⟩)) (fe_lst fa_nil) (nomark _)))))) (fss_one (fs_ret fe_bl)) fss_nil) (fss_cons (fs_setF (ps_setC 1 sc__law_is_jar.nd (by kernel_rfl) (.inl (by kernel_rfl)) (.inl rfl) (defScope s__law_is_jar) ["_law_thing", "_law_keys", "_law_moments"] ["_law_one"] [0] [] (by kernel_rfl) (by kernel_rfl) ⟨by kernel_rfl, by decide +kernel, by decide +kernel, by decide +kernel, by decide +kernel⟩ (by kernel_rfl) rfl (back1 _) (FI.toG (fi_seq (fe_lv 0))) (fun _ _ _ _ => fg_name 0 (show (["_law_one"] : List Str).Nodup by decide +kernel) (by kernel_rfl) (.inl (by kernel_rfl)) (.inr (by kernel_rfl))) (fun _ _ _ _ => (fe_tup (fa_cons (fe_ix (fe_lv 0) fe_int) (fa_cons (fe_ix (fe_lv 0) fe_int) (fa_cons (fe_ix (fe_lv 0) fe_int) fa_nil))))) (fun _ _ _ _ => rfl)) compG_lst) (fss_cons (fs_setF (ps_setC 2 sc__law_is_jar.nd (by kernel_rfl) (.inl (by kernel_rfl)) (.inl rfl) (defScope s__law_is_jar) ["_law_thing", "_law_keys", "_law_moments"] ["_law_one"] [0] [] (by kernel_rfl) (by kernel_rfl) ⟨by kernel_rfl, by decide +kernel, by decide +kernel, by decide +kernel, by decide +kernel⟩ (by kernel_rfl) rfl (back1 _) (FI.toG (fi_seq (fe_lv 0))) (fun _ _ _ _ => fg_name 0 (show (["_law_one"] : List Str).Nodup by decide +kernel) (by kernel_rfl) (.inl (by kernel_rfl)) (.inr (by kernel_rfl))) (fun _ _ _ _ => (fe_ix (fe_lv 0) fe_int)) (fun _ _ _ _ => rfl)) compG_lst) (fss_one (fs_ret (fe_and (fe_cmp (o_eqX hr.units) g_eqX (fe_lenSetU hr.units rfl (glb (by kernel_rfl)) m_len (glb (by kernel_rfl)) m_set (fa_cons (fe_lv 1) fa_nil)) (fe_len (glb (by kernel_rfl)) m_len (fa_cons (fe_lv 1) fa_nil)) (nomark _)) (fe_one (fe_cmp (o_eqX hr.units) g_eqX (fe_lv 2) (fe_sorted (glb (by kernel_rfl)) m_sorted (fa_cons (fe_lv 2) fa_nil)) (nomark _)))))))))
def B__law_name : FnS := (fSeq (fSet 2 (fLst (aCons (fC (.str "a.b")) (aCons (fC (.str "b")) (aCons (fC (.str "x.a.b")) (aCons (fC (.str "y.x.a.b")) (aCons (fC (.str "c.uk")) (aCons (fC (.str "uk")) (aCons (fC (.str "d.c.uk")) (aCons (fC (.str "e.d.c.uk")) aNil)))))))))) (fSeq (fSet 2 (f2 addD (fVar 2) (fLst (aCons (fC (.str "w.ck")) (aCons (fC (.str "v.w.ck")) (aCons (fC (.str "ck")) (aCons (fC (.str "g-1.a.b")) (aCons (fC (.str "7.b")) (aCons (fC (.str "p.q")) aNil))))))))) (fRet (f2 ixD (fVar 2) (fCall F__law_drawn 3 (aCons (fVar 0) (aCons (fVar 1) (aCons (fB1 lenD (aCons (fVar 2) aNil)) aNil))))))))
def F__law_name : List Dv → Option (Rs Dv) := runF 3 B__law_name
set_option maxHeartbeats 4000000 in
theorem fn__law_name {P : Program} {w : World} {K : PySem.W.Frag} {mg : Str → Option Value} {base : Heap} {f : Addr} {fd : FuncData} (Fn : Fun K "_law_name" "_law_name" s__law_name f fd) (h__law_drawn : Has P w K mg base "_law_drawn" 2 ["_law_script", "_law_k", "_law_many_here"] F__law_drawn) (m_len : mg "len" = none) :
    FnOk P w K mg base CX0 3 f fd ["_law_script", "_law_at"] (spF K F__law_name 2) :=
  fn_ok2 (k := 2) ["_law_script", "_law_at", "_law_some"] ["_law_script", "_law_at"] B__law_name (by kernel_rfl) (by kernel_rfl) Fn sc__law_name fun cdv A outer s H E hr => (fss_cons (fs_set 2 sc__law_name.nd (by kernel_rfl) (.inl (by kernel_rfl)) (fe_lst (fa_cons fe_str (fa_cons fe_str (fa_cons fe_str (fa_cons fe_str (fa_cons fe_str (fa_cons fe_str (fa_cons fe_str (fa_cons fe_str fa_nil)))))))))) (fss_cons (fs_set 2 sc__law_name.nd (by kernel_rfl) (.inl (by kernel_rfl)) (fe_op o_add g_add (fe_lv 2) (fe_lst (fa_cons fe_str (fa_cons fe_str (fa_cons fe_str (fa_cons fe_str (fa_cons fe_str (fa_cons fe_str fa_nil))))))))) (fss_one (fs_ret (fe_ix (fe_lv 2) (fe_callH (k' := 2) 2 ["_law_script", "_law_k", "_law_many_here"] F__law_drawn h__law_drawn hr (by decide) (glb (by kernel_rfl)) (fa_cons (fe_lv 0) (fa_cons (fe_lv 1) (fa_cons (fe_len (glb (by kernel_rfl)) m_len (fa_cons (fe_lv 2) fa_nil)) fa_nil)))))))))
def B__law_path : FnS := (fSeq (fSet 2 (fLst (aCons (fC (.str "/")) (aCons (fC (.str "/x")) (aCons (fC (.str "/x/")) (aCons (fC (.str "/x/y")) (aCons (fC (.str "/xy")) (aCons (fC (.str "/x/y/z.q")) (aCons (fC (.str "//")) (aCons (fC (.str "/-_.9")) (aCons (fC (.str "/x/y/")) aNil))))))))))) (fRet (f2 ixD (fVar 2) (fCall F__law_drawn 3 (aCons (fVar 0) (aCons (fVar 1) (aCons (fB1 lenD (aCons (fVar 2) aNil)) aNil)))))))
def F__law_path : List Dv → Option (Rs Dv) := runF 3 B__law_path
set_option maxHeartbeats 4000000 in
theorem fn__law_path {P : Program} {w : World} {K : PySem.W.Frag} {mg : Str → Option Value} {base : Heap} {f : Addr} {fd : FuncData} (Fn : Fun K "_law_path" "_law_path" s__law_path f fd) (h__law_drawn : Has P w K mg base "_law_drawn" 2 ["_law_script", "_law_k", "_law_many_here"] F__law_drawn) (m_len : mg "len" = none) :
    FnOk P w K mg base CX0 3 f fd ["_law_script", "_law_at"] (spF K F__law_path 2) :=
  fn_ok2 (k := 2) ["_law_script", "_law_at", "_law_some"] ["_law_script", "_law_at"] B__law_path (by kernel_rfl) (by kernel_rfl) Fn sc__law_path fun cdv A outer s H E hr => (fss_cons (fs_set 2 sc__law_path.nd (by kernel_rfl) (.inl (by kernel_rfl)) (fe_lst (fa_cons fe_str (fa_cons fe_str (fa_cons fe_str (fa_cons fe_str (fa_cons fe_str (fa_cons fe_str (fa_cons fe_str (fa_cons fe_str (fa_cons fe_str fa_nil))))))))))) (fss_one (fs_ret (fe_ix (fe_lv 2) (fe_callH (k' := 2) 2 ["_law_script", "_law_k", "_law_many_here"] F__law_drawn h__law_drawn hr (by decide) (glb (by kernel_rfl)) (fa_cons (fe_lv 0) (fa_cons (fe_lv 1) (fa_cons (fe_len (glb (by kernel_rfl)) m_len (fa_cons (fe_lv 2) fa_nil)) fa_nil))))))))
def b__law_jar_0 : FnO2 := (oSeq (oSet 6 (f2 addT (f2 addT (fVar 1) (fC (.int 1))) (f2 mulD (fC (.int 14)) (fVar 5)))) (oSeq (oSet 4 (f2 addT (fVar 4) (fCall F__law_drawn 3 (aCons (fVar 0) (aCons (fVar 6) (aCons (fC (.int 4)) aNil)))))) (oSeq (oSet 7 (f2 ixD (fLst (aCons (fC (.str "n")) (aCons (fC (.str "m-1")) (aCons (fC (.str "safe-a")) (aCons (fC (.str "N_2")) aNil))))) (fCall F__law_drawn 3 (aCons (fVar 0) (aCons (f2 addT (fVar 6) (fC (.int 1))) (aCons (fC (.int 4)) aNil)))))) (oSeq (oSet 8 (f2 ixD (fLst (aCons (fC (.str "5")) (aCons (fC (.str "")) (aCons (fC (.str "a!b~")) aNil)))) (fCall F__law_drawn 3 (aCons (fVar 0) (aCons (f2 addT (fVar 6) (fC (.int 2))) (aCons (fC (.int 3)) aNil)))))) (oSeq (oSet 9 (f2 ixD (fLst (aCons (fC .non) (aCons (fCall F__law_drawn 3 (aCons (fVar 0) (aCons (f2 addT (fVar 6) (fC (.int 7))) (aCons (fC (.int 60)) aNil)))) aNil))) (fCall F__law_drawn 3 (aCons (fVar 0) (aCons (f2 addT (fVar 6) (fC (.int 6))) (aCons (fC (.int 2)) aNil)))))) (oSeq (oSet 10 (f2 eqX (fCall F__law_drawn 3 (aCons (fVar 0) (aCons (f2 addT (fVar 6) (fC (.int 4))) (aCons (fC (.int 2)) aNil)))) (fC (.int 0)))) (oSeq (oSet 11 (fTup (aCons (fVar 7) (aCons (fVar 8) (aCons (fCall F__law_name 2 (aCons (fVar 0) (aCons (f2 addT (fVar 6) (fC (.int 3))) aNil))) (aCons (fVar 10) (aCons (fCall F__law_path 2 (aCons (fVar 0) (aCons (f2 addT (fVar 6) (fC (.int 5))) aNil))) aNil))))))) (oSeq (oSet 12 (f2 ixD (fLst (aCons (fC (.str "any")) (aCons (fC (.str "any")) (aCons (fC (.str "near")) aNil)))) (fCall F__law_drawn 3 (aCons (fVar 0) (aCons (f2 addT (fVar 6) (fC (.int 9))) (aCons (fC (.int 3)) aNil)))))) (oSeq (oSet 13 (f2 eqX (fCall F__law_drawn 3 (aCons (fVar 0) (aCons (f2 addT (fVar 6) (fC (.int 8))) (aCons (fC (.int 2)) aNil)))) (fC (.int 0)))) (oSeq (oSet 14 (f2 addT (fVar 4) (fCall F__law_drawn 3 (aCons (fVar 0) (aCons (f2 addT (fVar 6) (fC (.int 10))) (aCons (fC (.int 5)) aNil)))))) (oSeq (oSet 15 (f2 addT (fVar 11) (fTup (aCons (fVar 9) (aCons (fVar 13) (aCons (fVar 12) (aCons (fVar 4) (aCons (fVar 14) aNil)))))))) (oIfR 3 (fB (f2 eqX (fComp [("_law_note", 15)] (iSeq (fVar 3)) (some (fB (f2 eqX (fTup (aCons (f2 ixD (fVar 0) (fC (.int 0))) (aCons (f2 ixD (fVar 0) (fC (.int 2))) (aCons (f2 ixD (fVar 0) (fC (.int 4))) aNil)))) (fTup (aCons (f2 ixD (fVar 1) (fC (.int 0))) (aCons (f2 ixD (fVar 1) (fC (.int 2))) (aCons (f2 ixD (fVar 1) (fC (.int 4))) aNil))))))) (fVar 0)) (fLst aNil))) (oApp (fVar 15)) oNil))))))))))))
def B__law_jar : FnS := (fOwn 3 aNil (oSeq (oSet 4 (fC (.int 0))) (oSeq (oFor 5 [5, 6, 7, 8, 9, 10, 11, 12, 13, 14, 15] (fun ρ => bnd ((aCons (fCall F__law_drawn 3 (aCons (fVar 0) (aCons (fVar 1) (aCons (f2 addT (fVar 2) (fC (.int 1))) aNil)))) aNil) ρ) rng1) b__law_jar_0) (oRet 3 (fB1 tupleD (aCons (fVar 3) aNil))))))
def F__law_jar : List Dv → Option (Rs Dv) := runF 16 B__law_jar
set_option maxHeartbeats 4000000 in
theorem fn__law_jar {P : Program} {w : World} {K : PySem.W.Frag} {mg : Str → Option Value} {base : Heap} {f : Addr} {fd : FuncData} (Fn : Fun K "_law_jar" "_law_jar" s__law_jar f fd) (h__law_drawn : Has P w K mg base "_law_drawn" 2 ["_law_script", "_law_k", "_law_many_here"] F__law_drawn) (h__law_name : Has P w K mg base "_law_name" 3 ["_law_script", "_law_at"] F__law_name) (h__law_path : Has P w K mg base "_law_path" 3 ["_law_script", "_law_at"] F__law_path) (m_range : mg "range" = none) (m_tuple : mg "tuple" = none) :
    FnOk P w K mg base CX0 4 f fd ["_law_script", "_law_at", "_law_many_here"] (spF K F__law_jar 3) :=
  fn_ok2 (k := 3) ["_law_script", "_law_at", "_law_many_here", "_law_found", "_law_now", "_law_k", "_law_here", "_law_name_here", "_law_worth", "_law_ends_here", "_law_exact", "_law_head", "_law_reach", "_law_safe", "_law_late", "_law_note"] ["_law_script", "_law_at", "_law_many_here"] B__law_jar (by kernel_rfl) (by kernel_rfl) Fn sc__law_jar fun cdv A outer s H E hr => (fss_own (i := 3) sc__law_jar.nd (by kernel_rfl) (.inl (by kernel_rfl)) fa_nil (fos_cons (fo_set rfl 4 (by decide) sc__law_jar.nd (by kernel_rfl) (.inl (by kernel_rfl)) fe_int) (fos_cons (fo_for rfl 5 [5, 6, 7, 8, 9, 10, 11, 12, 13, 14, 15] (by decide) PassesOwn.never rfl (fi_range1 (glb (by kernel_rfl)) m_range (fa_cons (fe_callH (k' := 3) 2 ["_law_script", "_law_k", "_law_many_here"] F__law_drawn h__law_drawn hr (by decide) (glb (by kernel_rfl)) (fa_cons (fe_lv 0) (fa_cons (fe_lv 1) (fa_cons (fe_op o_addT g_addT (fe_lv 2) fe_int) fa_nil)))) fa_nil)) (pg_name (i := 5) sc__law_jar.nd (by kernel_rfl) (.inl (by kernel_rfl)) (.inl rfl)) (fos_cons (fo_set rfl 6 (by decide) sc__law_jar.nd (by kernel_rfl) (.inl (by kernel_rfl)) (fe_op o_addT g_addT (fe_op o_addT g_addT (fe_lv 1) fe_int) (fe_op op_mul g_mul fe_int (fe_lv 5)))) (fos_cons (fo_set rfl 4 (by decide) sc__law_jar.nd (by kernel_rfl) (.inl (by kernel_rfl)) (fe_op o_addT g_addT (fe_lv 4) (fe_callH (k' := 3) 2 ["_law_script", "_law_k", "_law_many_here"] F__law_drawn h__law_drawn hr (by decide) (glb (by kernel_rfl)) (fa_cons (fe_lv 0) (fa_cons (fe_lv 6) (fa_cons fe_int fa_nil)))))) (fos_cons (fo_set rfl 7 (by decide) sc__law_jar.nd (by kernel_rfl) (.inl (by kernel_rfl)) (fe_ix (fe_lst (fa_cons fe_str (fa_cons fe_str (fa_cons fe_str (fa_cons fe_str fa_nil))))) (fe_callH (k' := 3) 2 ["_law_script", "_law_k", "_law_many_here"] F__law_drawn h__law_drawn hr (by decide) (glb (by kernel_rfl)) (fa_cons (fe_lv 0) (fa_cons (fe_op o_addT g_addT (fe_lv 6) fe_int) (fa_cons fe_int fa_nil)))))) (fos_cons (fo_set rfl 8 (by decide) sc__law_jar.nd (by kernel_rfl) (.inl (by kernel_rfl)) (fe_ix (fe_lst (fa_cons fe_str (fa_cons fe_str (fa_cons fe_str fa_nil)))) (fe_callH (k' := 3) 2 ["_law_script", "_law_k", "_law_many_here"] F__law_drawn h__law_drawn hr (by decide) (glb (by kernel_rfl)) (fa_cons (fe_lv 0) (fa_cons (fe_op o_addT g_addT (fe_lv 6) fe_int) (fa_cons fe_int fa_nil)))))) (fos_cons (fo_set rfl 9 (by decide) sc__law_jar.nd (by kernel_rfl) (.inl (by kernel_rfl)) (fe_ix (fe_lst (fa_cons fe_non (fa_cons (fe_callH (k' := 3) 2 ["_law_script", "_law_k", "_law_many_here"] F__law_drawn h__law_drawn hr (by decide) (glb (by kernel_rfl)) (fa_cons (fe_lv 0) (fa_cons (fe_op o_addT g_addT (fe_lv 6) fe_int) (fa_cons fe_int fa_nil)))) fa_nil))) (fe_callH (k' := 3) 2 ["_law_script", "_law_k", "_law_many_here"] F__law_drawn h__law_drawn hr (by decide) (glb (by kernel_rfl)) (fa_cons (fe_lv 0) (fa_cons (fe_op o_addT g_addT (fe_lv 6) fe_int) (fa_cons fe_int fa_nil)))))) (fos_cons (fo_set rfl 10 (by decide) sc__law_jar.nd (by kernel_rfl) (.inl (by kernel_rfl)) (fe_cmp (o_eqX hr.units) g_eqX (fe_callH (k' := 3) 2 ["_law_script", "_law_k", "_law_many_here"] F__law_drawn h__law_drawn hr (by decide) (glb (by kernel_rfl)) (fa_cons (fe_lv 0) (fa_cons (fe_op o_addT g_addT (fe_lv 6) fe_int) (fa_cons fe_int fa_nil)))) fe_int (nomark _))) (fos_cons (fo_set rfl 11 (by decide) sc__law_jar.nd (by kernel_rfl) (.inl (by kernel_rfl)) (fe_tup (fa_cons (fe_lv 7) (fa_cons (fe_lv 8) (fa_cons (fe_callH (k' := 3) 3 ["_law_script", "_law_at"] F__law_name h__law_name hr (by decide) (glb (by kernel_rfl)) (fa_cons (fe_lv 0) (fa_cons (fe_op o_addT g_addT (fe_lv 6) fe_int) fa_nil))) (fa_cons (fe_lv 10) (fa_cons (fe_callH (k' := 3) 3 ["_law_script", "_law_at"] F__law_path h__law_path hr (by decide) (glb (by kernel_rfl)) (fa_cons (fe_lv 0) (fa_cons (fe_op o_addT g_addT (fe_lv 6) fe_int) fa_nil))) fa_nil))))))) (fos_cons (fo_set rfl 12 (by decide) sc__law_jar.nd (by kernel_rfl) (.inl (by kernel_rfl)) (fe_ix (fe_lst (fa_cons fe_str (fa_cons fe_str (fa_cons fe_str fa_nil)))) (fe_callH (k' := 3) 2 ["_law_script", "_law_k", "_law_many_here"] F__law_drawn h__law_drawn hr (by decide) (glb (by kernel_rfl)) (fa_cons (fe_lv 0) (fa_cons (fe_op o_addT g_addT (fe_lv 6) fe_int) (fa_cons fe_int fa_nil)))))) (fos_cons (fo_set rfl 13 (by decide) sc__law_jar.nd (by kernel_rfl) (.inl (by kernel_rfl)) (fe_cmp (o_eqX hr.units) g_eqX (fe_callH (k' := 3) 2 ["_law_script", "_law_k", "_law_many_here"] F__law_drawn h__law_drawn hr (by decide) (glb (by kernel_rfl)) (fa_cons (fe_lv 0) (fa_cons (fe_op o_addT g_addT (fe_lv 6) fe_int) (fa_cons fe_int fa_nil)))) fe_int (nomark _))) (fos_cons (fo_set rfl 14 (by decide) sc__law_jar.nd (by kernel_rfl) (.inl (by kernel_rfl)) (fe_op o_addT g_addT (fe_lv 4) (fe_callH (k' := 3) 2 ["_law_script", "_law_k", "_law_many_here"] F__law_drawn h__law_drawn hr (by decide) (glb (by kernel_rfl)) (fa_cons (fe_lv 0) (fa_cons (fe_op o_addT g_addT (fe_lv 6) fe_int) (fa_cons fe_int fa_nil)))))) (fos_cons (fo_set rfl 15 (by decide) sc__law_jar.nd (by kernel_rfl) (.inr (by kernel_rfl)) (fe_op o_addT g_addT (fe_lv 11) (fe_tup (fa_cons (fe_lv 9) (fa_cons (fe_lv 13) (fa_cons (fe_lv 12) (fa_cons (fe_lv 4) (fa_cons (fe_lv 14) fa_nil)))))))) (fos_one (fo_ifR (ft_cmp (o_eqX hr.units) g_eqX (fe_compF (defScope s__law_jar) ["_law_script", "_law_at", "_law_many_here", "_law_found", "_law_now", "_law_k", "_law_here", "_law_name_here", "_law_worth", "_law_ends_here", "_law_exact", "_law_head", "_law_reach", "_law_safe", "_law_late", "_law_note"] ["_law_old"] [0] [("_law_note", 15)] (by kernel_rfl) (by kernel_rfl) ⟨by kernel_rfl, by decide +kernel, by decide +kernel, by decide +kernel, by decide +kernel⟩ (by kernel_rfl) rfl (back1 _) (FI.toG (fi_seq (fe_lv 3))) (fun _ _ _ _ => fg_name 0 (show (["_law_old", "_law_note"] : List Str).Nodup by decide +kernel) (by kernel_rfl) (.inl (by kernel_rfl)) (.inr (by kernel_rfl))) (fun _ _ _ _ => (fe_lv 0)) (fun _ _ _ _ => ⟨_, rfl, (ft_cmp (o_eqX hr.units) g_eqX (fe_tup (fa_cons (fe_ix (fe_lv 0) fe_int) (fa_cons (fe_ix (fe_lv 0) fe_int) (fa_cons (fe_ix (fe_lv 0) fe_int) fa_nil)))) (fe_tup (fa_cons (fe_ix (fe_cv 1) fe_int) (fa_cons (fe_ix (fe_cv 1) fe_int) (fa_cons (fe_ix (fe_cv 1) fe_int) fa_nil)))) (nomark _))⟩)) (fe_lst fa_nil) (nomark _)) (fos_one (fo_app rfl (pe_var (by kernel_rfl) (.inl (by kernel_rfl)) (by kernel_rfl) (by kernel_rfl)) (fe_cv 15))) fos_nil)))))))))))))) (fos_one (fo_ret (fe_tuple (glb (by kernel_rfl)) m_tuple (fa_cons (fe_lv 3) fa_nil)))))))
def B__law_many : FnS := (fRet (fB1 tupleD (aCons (fComp [] (fun ρ => bnd ((aCons (fVar 0) aNil) ρ) rng1) none (fTup (aCons (fC (.str "n")) (aCons (fC (.str "")) (aCons (fC (.str "a.b")) (aCons (fC (.bl false)) (aCons (f2 addD (fC (.str "/x")) (fB1 strD (aCons (fVar 0) aNil))) (aCons (fC .non) (aCons (fC (.bl false)) (aCons (fC (.str "any")) (aCons (fC (.int 1)) (aCons (fC (.int 2)) aNil)))))))))))) aNil)))
def F__law_many : List Dv → Option (Rs Dv) := runF 1 B__law_many
set_option maxHeartbeats 4000000 in
theorem fn__law_many {P : Program} {w : World} {K : PySem.W.Frag} {mg : Str → Option Value} {base : Heap} {f : Addr} {fd : FuncData} (Fn : Fun K "_law_many" "_law_many" s__law_many f fd) (m_range : mg "range" = none) (m_str : mg "str" = none) (m_tuple : mg "tuple" = none) :
    FnOk P w K mg base CX0 1 f fd ["_law_many_here"] (spF K F__law_many 1) :=
  fn_ok2 (k := 0) ["_law_many_here"] ["_law_many_here"] B__law_many (by kernel_rfl) (by kernel_rfl) Fn sc__law_many fun cdv A outer s H E hr => (fss_one (fs_ret (fe_tuple (glb (by kernel_rfl)) m_tuple (fa_cons (fe_compF (defScope s__law_many) ["_law_many_here"] ["_law_k"] [0] [] (by kernel_rfl) (by kernel_rfl) ⟨by kernel_rfl, by decide +kernel, by decide +kernel, by decide +kernel, by decide +kernel⟩ (by kernel_rfl) rfl (back1 _) (FI.toG (fi_range1 (glb (by kernel_rfl)) m_range (fa_cons (fe_lv 0) fa_nil))) (fun _ _ _ _ => fg_name 0 (show (["_law_k"] : List Str).Nodup by decide +kernel) (by kernel_rfl) (.inl (by kernel_rfl)) (.inr (by kernel_rfl))) (fun _ _ _ _ => (fe_tup (fa_cons fe_str (fa_cons fe_str (fa_cons fe_str (fa_cons fe_bl (fa_cons (fe_op o_add g_add fe_str (fe_strI (glb (by kernel_rfl)) m_str (fa_cons (fe_lv 0) fa_nil))) (fa_cons fe_non (fa_cons fe_bl (fa_cons fe_str (fa_cons fe_int (fa_cons fe_int fa_nil)))))))))))) (fun _ _ _ _ => rfl)) fa_nil))))
def BM__law_refused : FnS := (fSeq (fSet 1 (fLst (aCons (f1 (isX (fun c => if c < 7 then some (c == 0) else none)) (fVar 0)) (aCons (f1 (isX (fun c => if c < 7 then some (c == 1) else none)) (fVar 0)) (aCons (f1 (isX (fun c => if c < 7 then some (c == 2) else none)) (fVar 0)) aNil))))) (fSeq (fSet 1 (f2 addD (fVar 1) (fLst (aCons (f1 (isX (fun c => if c < 7 then some (c == 3) else none)) (fVar 0)) (aCons (f1 (isX (fun c => if c < 7 then some (c == 4) else none)) (fVar 0)) (aCons (f1 (isX (fun c => if c < 7 then some (c == 5) else none)) (fVar 0)) aNil)))))) (fSeq (fSet 1 (f2 addD (fVar 1) (fLst (aCons (f1 (isX (fun c => if c < 7 then some (c == 6) else none)) (fVar 0)) aNil)))) (fSeq (fIfS (bOr (fB (f2 neX (fML cntD (fVar 1) (aCons (fC (.bl true)) aNil)) (fC (.int 1)))) (bNot (fB (f1 (isX (fun c => if c < 7 then some true else none)) (fVar 0))))) (fRet (fTup (aCons (fC (.str "refused")) (aCons (f1 negD (fC (.int 1))) aNil)))) (fun ρ => some (.nx ρ))) (fRet (fTup (aCons (fC (.str "refused")) (aCons (fML idxD (fVar 1) (aCons (fC (.bl true)) aNil)) aNil))))))))
def FM__law_refused : List Dv → Option (Rs Dv) := runF 2 BM__law_refused
set_option maxHeartbeats 4000000 in
theorem fm__law_refused {P : Program} {w : World} {K : PySem.W.Frag} {mg : Str → Option Value} {base : Heap} {f : Addr} {fd : FuncData} (Fn : Fun K "_law_refused" "_law_refused" s__law_refused f fd) (m_ValueError : mg "ValueError" = none) (m_isinstance : mg "isinstance" = none) {cls : Nat → Addr} {CJ : Addr} (xa : XAll K 7 cls CJ) (m_NoAsk : mg "NoAsk" = some (.ref (cls 3))) (m_NoJar : mg "NoJar" = some (.ref (cls 5))) (m_NoName : mg "NoName" = some (.ref (cls 0))) (m_NoNote : mg "NoNote" = some (.ref (cls 4))) (m_NoNumber : mg "NoNumber" = some (.ref (cls 6))) (m_NoPath : mg "NoPath" = some (.ref (cls 2))) (m_NoTable : mg "NoTable" = some (.ref (cls 1))) :
    FnM P w K mg base 1 f fd ["_law_e"] FM__law_refused :=
  fn_okM (k := 0) ["_law_e", "_law_flags"] ["_law_e"] BM__law_refused (by kernel_rfl) Fn sc__law_refused fun cdv A outer s H hr => (fss_cons (fs_set 1 sc__law_refused.nd (by kernel_rfl) (.inl (by kernel_rfl)) (fe_lst (fa_cons (fe_isO (xa.xtO 0 (by decide)) m_NoName (glb (by kernel_rfl)) (by kernel_rfl) (glb (by kernel_rfl)) m_isinstance (fe_lv 0)) (fa_cons (fe_isO (xa.xtO 1 (by decide)) m_NoTable (glb (by kernel_rfl)) (by kernel_rfl) (glb (by kernel_rfl)) m_isinstance (fe_lv 0)) (fa_cons (fe_isO (xa.xtO 2 (by decide)) m_NoPath (glb (by kernel_rfl)) (by kernel_rfl) (glb (by kernel_rfl)) m_isinstance (fe_lv 0)) fa_nil))))) (fss_cons (fs_set 1 sc__law_refused.nd (by kernel_rfl) (.inl (by kernel_rfl)) (fe_op o_add g_add (fe_lv 1) (fe_lst (fa_cons (fe_isO (xa.xtO 3 (by decide)) m_NoAsk (glb (by kernel_rfl)) (by kernel_rfl) (glb (by kernel_rfl)) m_isinstance (fe_lv 0)) (fa_cons (fe_isO (xa.xtO 4 (by decide)) m_NoNote (glb (by kernel_rfl)) (by kernel_rfl) (glb (by kernel_rfl)) m_isinstance (fe_lv 0)) (fa_cons (fe_isO (xa.xtO 5 (by decide)) m_NoJar (glb (by kernel_rfl)) (by kernel_rfl) (glb (by kernel_rfl)) m_isinstance (fe_lv 0)) fa_nil)))))) (fss_cons (fs_set 1 sc__law_refused.nd (by kernel_rfl) (.inl (by kernel_rfl)) (fe_op o_add g_add (fe_lv 1) (fe_lst (fa_cons (fe_isO (xa.xtO 6 (by decide)) m_NoNumber (glb (by kernel_rfl)) (by kernel_rfl) (glb (by kernel_rfl)) m_isinstance (fe_lv 0)) fa_nil)))) (fss_cons (fs_if (FW.ft (fw_or (ft_cmp (o_neX hr.units) g_neX (fe_count (fe_lv 1) (fa_cons fe_bl fa_nil)) fe_int (nomark _)) (fw_or1 (ft_not (ft_val (fe_isB (T := "ValueError") xa.xtV bt_ValueError (by decide +kernel) (by kernel_rfl) (glb (by kernel_rfl)) m_isinstance (glb (by kernel_rfl)) m_ValueError (fe_lv 0))))))) (fss_one (fs_ret (fe_tup (fa_cons fe_str (fa_cons (fe_neg fe_int) fa_nil))))) fss_nil) (fss_one (fs_ret (fe_tup (fa_cons fe_str (fa_cons (fe_index (fe_lv 1) (fa_cons fe_bl fa_nil)) fa_nil)))))))))
def B_lies_within : FnS := (fRet (vOr (f2 eqX (fVar 0) (fVar 1)) (fM (strB Txt.endswith) (fVar 0) (aCons (f2 addD (fC (.str ".")) (fVar 1)) aNil))))
def F_lies_within : List Dv → Option (Rs Dv) := runF 2 B_lies_within
set_option maxHeartbeats 4000000 in
theorem fn_lies_within {P : Program} {w : World} {K : PySem.W.Frag} {mg : Str → Option Value} {base : Heap} {f : Addr} {fd : FuncData} (Fn : Fun K "lies_within" "lies_within" s_lies_within f fd) :
    FnOk P w K mg base CX0 1 f fd ["one", "other"] (spF K F_lies_within 2) :=
  fn_ok2 (k := 0) ["one", "other"] ["one", "other"] B_lies_within (by kernel_rfl) (by kernel_rfl) Fn sc_lies_within fun cdv A outer s H E hr => (fss_one (fs_ret (fe_or (fe_cmp (o_eqX hr.units) g_eqX (fe_lv 0) (fe_lv 1) (nomark _)) (fe_one (fe_strM PySem.F.slot_str_endswith PySem.F.type_str_endswith mt_ew g_strB (fe_lv 0) (fa_cons (fe_op o_add g_add fe_str (fe_lv 1)) fa_nil))))))
def B_key : FnS := (fRet (fTup (aCons (f2 ixD (fVar 0) (fC (.int 0))) (aCons (f2 ixD (fVar 0) (fC (.int 2))) (aCons (f2 ixD (fVar 0) (fC (.int 4))) aNil)))))
def F_key : List Dv → Option (Rs Dv) := runF 1 B_key
set_option maxHeartbeats 4000000 in
theorem fn_key {P : Program} {w : World} {K : PySem.W.Frag} {mg : Str → Option Value} {base : Heap} {f : Addr} {fd : FuncData} (Fn : Fun K "key" "key" s_key f fd) {t_NOTE_HOUSE : Tok} (m_NOTE_HOUSE : mg "NOTE_HOUSE" = some (.int 2 t_NOTE_HOUSE)) {t_NOTE_NAME : Tok} (m_NOTE_NAME : mg "NOTE_NAME" = some (.int 0 t_NOTE_NAME)) {t_NOTE_PATH : Tok} (m_NOTE_PATH : mg "NOTE_PATH" = some (.int 4 t_NOTE_PATH)) :
    FnOk P w K mg base CX0 1 f fd ["note"] (spF K F_key 1) :=
  fn_ok2 (k := 0) ["note"] ["note"] B_key (by kernel_rfl) (by kernel_rfl) Fn sc_key fun cdv A outer s H E hr => (fss_one (fs_ret (fe_tup (fa_cons (fe_ix (fe_lv 0) (fe_gint (glb (by kernel_rfl)) m_NOTE_NAME)) (fa_cons (fe_ix (fe_lv 0) (fe_gint (glb (by kernel_rfl)) m_NOTE_HOUSE)) (fa_cons (fe_ix (fe_lv 0) (fe_gint (glb (by kernel_rfl)) m_NOTE_PATH)) fa_nil))))))
def B_has_no_key_twice : FnS := (fSeq (fSet 1 (fCompG 1 [] (iSeq (fVar 0)) (gN 0) none (fCall F_key 1 (aCons (fVar 0) aNil)))) (fRet (f2 eqX (fB1 lenSetU (aCons (fVar 1) aNil)) (fB1 lenD (aCons (fVar 1) aNil)))))
def F_has_no_key_twice : List Dv → Option (Rs Dv) := runF 2 B_has_no_key_twice
set_option maxHeartbeats 4000000 in
theorem fn_has_no_key_twice {P : Program} {w : World} {K : PySem.W.Frag} {mg : Str → Option Value} {base : Heap} {f : Addr} {fd : FuncData} (Fn : Fun K "has_no_key_twice" "has_no_key_twice" s_has_no_key_twice f fd) (h_key : Has P w K mg base "key" 1 ["note"] F_key) (m_len : mg "len" = none) (m_set : mg "set" = none) :
    FnOk P w K mg base CX0 2 f fd ["notes"] (spF K F_has_no_key_twice 1) :=
  fn_ok2 (k := 1) ["notes", "keys"] ["notes"] B_has_no_key_twice (by kernel_rfl) (by kernel_rfl) Fn sc_has_no_key_twice fun cdv A outer s H E hr => (fss_cons (fs_setF (ps_setC 1 sc_has_no_key_twice.nd (by kernel_rfl) (.inl (by kernel_rfl)) (.inl rfl) (defScope s_has_no_key_twice) ["notes", "keys"] ["note"] [0] [] (by kernel_rfl) (by kernel_rfl) ⟨by kernel_rfl, by decide +kernel, by decide +kernel, by decide +kernel, by decide +kernel⟩ (by kernel_rfl) rfl (back1 _) (FI.toG (fi_seq (fe_lv 0))) (fun _ _ _ _ => fg_name 0 (show (["note"] : List Str).Nodup by decide +kernel) (by kernel_rfl) (.inl (by kernel_rfl)) (.inr (by kernel_rfl))) (fun _ _ _ _ => (fe_callH (k' := 1) 1 ["note"] F_key h_key hr (by decide) (glb (by kernel_rfl)) (fa_cons (fe_lv 0) fa_nil))) (fun _ _ _ _ => rfl)) compG_lst) (fss_one (fs_ret (fe_cmp (o_eqX hr.units) g_eqX (fe_lenSetU hr.units rfl (glb (by kernel_rfl)) m_len (glb (by kernel_rfl)) m_set (fa_cons (fe_lv 1) fa_nil)) (fe_len (glb (by kernel_rfl)) m_len (fa_cons (fe_lv 1) fa_nil)) (nomark _)))))
def B_is_by_made : FnS := (fRet (fB1 allD (aCons (fComp [("notes", 0)] (fun ρ => bnd ((aCons (fC (.int 1)) (aCons (fB1 lenD (aCons (fVar 0) aNil)) aNil)) ρ) rng2) none (f2 leX (f2 ixD (f2 ixD (fVar 1) (f2 subD (fVar 0) (fC (.int 1)))) (fC (.int 8))) (f2 ixD (f2 ixD (fVar 1) (fVar 0)) (fC (.int 8))))) aNil)))
def F_is_by_made : List Dv → Option (Rs Dv) := runF 1 B_is_by_made
set_option maxHeartbeats 4000000 in
theorem fn_is_by_made {P : Program} {w : World} {K : PySem.W.Frag} {mg : Str → Option Value} {base : Heap} {f : Addr} {fd : FuncData} (Fn : Fun K "is_by_made" "is_by_made" s_is_by_made f fd) (m_all : mg "all" = none) (m_len : mg "len" = none) (m_range : mg "range" = none) {t_NOTE_MADE : Tok} (m_NOTE_MADE : mg "NOTE_MADE" = some (.int 8 t_NOTE_MADE)) :
    FnOk P w K mg base CX0 1 f fd ["notes"] (spF K F_is_by_made 1) :=
  fn_ok2 (k := 0) ["notes"] ["notes"] B_is_by_made (by kernel_rfl) (by kernel_rfl) Fn sc_is_by_made fun cdv A outer s H E hr => (fss_one (fs_ret (fe_all rfl (glb (by kernel_rfl)) m_all (fa_cons (fe_compF (defScope s_is_by_made) ["notes"] ["place"] [0] [("notes", 0)] (by kernel_rfl) (by kernel_rfl) ⟨by kernel_rfl, by decide +kernel, by decide +kernel, by decide +kernel, by decide +kernel⟩ (by kernel_rfl) rfl (back1 _) (FI.toG (fi_range2 (glb (by kernel_rfl)) m_range (fa_cons fe_int (fa_cons (fe_len (glb (by kernel_rfl)) m_len (fa_cons (fe_cv 0) fa_nil)) fa_nil)))) (fun _ _ _ _ => fg_name 0 (show (["place", "notes"] : List Str).Nodup by decide +kernel) (by kernel_rfl) (.inl (by kernel_rfl)) (.inr (by kernel_rfl))) (fun _ _ _ _ => (fe_cmp o_leX g_leX (fe_ix (fe_ix (fe_cv 1) (fe_op op_sub g_sub (fe_lv 0) fe_int)) (fe_gint (glb (by kernel_rfl)) m_NOTE_MADE)) (fe_ix (fe_ix (fe_cv 1) (fe_lv 0)) (fe_gint (glb (by kernel_rfl)) m_NOTE_MADE)) (nomark _))) (fun _ _ _ _ => rfl)) fa_nil))))
def B_is_jar : FnS := (fSeq (fIfS (bOr (bNot (fB (f1 (isiD tbTup) (fVar 0)))) (fB (f2 gtD (fB1 lenD (aCons (fVar 0) aNil)) (fC (.int 20))))) (fRet (fC (.bl false))) (fun ρ => some (.nx ρ))) (fSeq (fIfS (bNot (fB (fB1 allD (aCons (fComp [] (iSeq (fVar 0)) none (fCall F_is_note 1 (aCons (fVar 0) aNil))) aNil)))) (fRet (fC (.bl false))) (fun ρ => some (.nx ρ))) (fRet (vAnd (fCall F_is_by_made 1 (aCons (fVar 0) aNil)) (fCall F_has_no_key_twice 1 (aCons (fVar 0) aNil))))))
def F_is_jar : List Dv → Option (Rs Dv) := runF 1 B_is_jar
set_option maxHeartbeats 4000000 in
theorem fn_is_jar {P : Program} {w : World} {K : PySem.W.Frag} {mg : Str → Option Value} {base : Heap} {f : Addr} {fd : FuncData} (Fn : Fun K "is_jar" "is_jar" s_is_jar f fd) (h_has_no_key_twice : Has P w K mg base "has_no_key_twice" 2 ["notes"] F_has_no_key_twice) (h_is_by_made : Has P w K mg base "is_by_made" 1 ["notes"] F_is_by_made) (h_is_note : Has P w K mg base "is_note" 4 ["thing"] F_is_note) (m_all : mg "all" = none) (m_isinstance : mg "isinstance" = none) (m_len : mg "len" = none) (m_tuple : mg "tuple" = none) {t_MOST_NOTES : Tok} (m_MOST_NOTES : mg "MOST_NOTES" = some (.int 20 t_MOST_NOTES)) :
    FnOk P w K mg base CX0 5 f fd ["thing"] (spF K F_is_jar 1) :=
  fn_ok2 (k := 4) ["thing"] ["thing"] B_is_jar (by kernel_rfl) (by kernel_rfl) Fn sc_is_jar fun cdv A outer s H E hr => (fss_cons (fs_if (FW.ft (fw_or (ft_not (ft_val (fe_isi (T := "tuple") kit_tup bt_tuple (by decide +kernel) (by kernel_rfl) (glb (by kernel_rfl)) m_isinstance (glb (by kernel_rfl)) m_tuple (fe_lv 0)))) (fw_or1 (ft_cmp op_gt (g_cmp _) (fe_len (glb (by kernel_rfl)) m_len (fa_cons (fe_lv 0) fa_nil)) (fe_gint (glb (by kernel_rfl)) m_MOST_NOTES) (nomark _))))) (fss_one (fs_ret fe_bl)) fss_nil) (fss_cons (fs_if (ft_not (ft_val (fe_all rfl (glb (by kernel_rfl)) m_all (fa_cons (fe_compF (defScope s_is_jar) ["thing"] ["part"] [0] [] (by kernel_rfl) (by kernel_rfl) ⟨by kernel_rfl, by decide +kernel, by decide +kernel, by decide +kernel, by decide +kernel⟩ (by kernel_rfl) rfl (back1 _) (FI.toG (fi_seq (fe_lv 0))) (fun _ _ _ _ => fg_name 0 (show (["part"] : List Str).Nodup by decide +kernel) (by kernel_rfl) (.inl (by kernel_rfl)) (.inr (by kernel_rfl))) (fun _ _ _ _ => (fe_callH (k' := 4) 4 ["thing"] F_is_note h_is_note hr (by decide) (glb (by kernel_rfl)) (fa_cons (fe_lv 0) fa_nil))) (fun _ _ _ _ => rfl)) fa_nil)))) (fss_one (fs_ret fe_bl)) fss_nil) (fss_one (fs_ret (fe_and (fe_callH (k' := 4) 1 ["notes"] F_is_by_made h_is_by_made hr (by decide) (glb (by kernel_rfl)) (fa_cons (fe_lv 0) fa_nil)) (fe_one (fe_callH (k' := 4) 2 ["notes"] F_has_no_key_twice h_has_no_key_twice hr (by decide) (glb (by kernel_rfl)) (fa_cons (fe_lv 0) fa_nil))))))))
def BX_need_jar : FnS := (fIfS (bNot (fB (fCall F_is_jar 1 (aCons (fVar 0) aNil)))) (fRaise 5 (fC (.str "this is no jar"))) (fun ρ => some (.nx ρ)))
def FX_need_jar : List Dv → Option (Rs Dv) := runE 1 BX_need_jar
set_option maxHeartbeats 4000000 in
theorem fx_need_jar {P : Program} {w : World} {K : PySem.W.Frag} {mg : Str → Option Value} {base : Heap} {f : Addr} {fd : FuncData} (Fn : Fun K "need_jar" "need_jar" s_need_jar f fd) (h_is_jar : Has P w K mg base "is_jar" 5 ["thing"] F_is_jar) {cls : Nat → Addr} {CJ : Addr} (xa : XAll K 7 cls CJ) (m_NoJar : mg "NoJar" = some (.ref (cls 5))) :
    FnOk P w K mg base (CXE P w) 6 f fd ["thing"] (spE K FX_need_jar 1) :=
  fn_okE (k := 5) ["thing"] ["thing"] BX_need_jar (by kernel_rfl) (by kernel_rfl) Fn sc_need_jar fun cdv A outer s H E hr => (fss_one (fs_if (ft_not (ft_val (fe_callH (k' := 5) 5 ["thing"] F_is_jar h_is_jar hr (by decide) (glb (by kernel_rfl)) (fa_cons (fe_lv 0) fa_nil)))) (fss_one (fs_raise 5 (xa.xc 5 (by decide)) (by kernel_rfl) m_NoJar rfl rfl (glb (by kernel_rfl)) fe_str)) fss_nil))
def BX_need_name : FnS := (fIfS (bNot (fB (fCall F_is_name 1 (aCons (fVar 0) aNil)))) (fRaise 0 (fC (.str "this is no name"))) (fun ρ => some (.nx ρ)))
def FX_need_name : List Dv → Option (Rs Dv) := runE 1 BX_need_name
set_option maxHeartbeats 4000000 in
theorem fx_need_name {P : Program} {w : World} {K : PySem.W.Frag} {mg : Str → Option Value} {base : Heap} {f : Addr} {fd : FuncData} (Fn : Fun K "need_name" "need_name" s_need_name f fd) (h_is_name : Has P w K mg base "is_name" 3 ["thing"] F_is_name) {cls : Nat → Addr} {CJ : Addr} (xa : XAll K 7 cls CJ) (m_NoName : mg "NoName" = some (.ref (cls 0))) :
    FnOk P w K mg base (CXE P w) 4 f fd ["thing"] (spE K FX_need_name 1) :=
  fn_okE (k := 3) ["thing"] ["thing"] BX_need_name (by kernel_rfl) (by kernel_rfl) Fn sc_need_name fun cdv A outer s H E hr => (fss_one (fs_if (ft_not (ft_val (fe_callH (k' := 3) 3 ["thing"] F_is_name h_is_name hr (by decide) (glb (by kernel_rfl)) (fa_cons (fe_lv 0) fa_nil)))) (fss_one (fs_raise 0 (xa.xc 0 (by decide)) (by kernel_rfl) m_NoName rfl rfl (glb (by kernel_rfl)) fe_str)) fss_nil))
def BX_forgotten : FnS := (fSeq (fDrop (fCallE FX_need_jar 1 (aCons (fVar 0) aNil))) (fSeq (fDrop (fCallE FX_need_name 1 (aCons (fVar 1) aNil))) (fRet (fB1 tupleD (aCons (fComp [("house", 1)] (iSeq (fVar 0)) (some (bNot (fB (fCall F_lies_within 2 (aCons (f2 ixD (fVar 0) (fC (.int 2))) (aCons (fVar 1) aNil)))))) (fVar 0)) aNil)))))
def FX_forgotten : List Dv → Option (Rs Dv) := runE 2 BX_forgotten
set_option maxHeartbeats 4000000 in
theorem fx_forgotten {P : Program} {w : World} {K : PySem.W.Frag} {mg : Str → Option Value} {base : Heap} {f : Addr} {fd : FuncData} (Fn : Fun K "forgotten" "forgotten" s_forgotten f fd) (h_lies_within : Has P w K mg base "lies_within" 1 ["one", "other"] F_lies_within) (hx_need_jar : HasE P w K mg base "need_jar" 6 ["thing"] FX_need_jar) (hx_need_name : HasE P w K mg base "need_name" 4 ["thing"] FX_need_name) (m_tuple : mg "tuple" = none) {t_NOTE_HOUSE : Tok} (m_NOTE_HOUSE : mg "NOTE_HOUSE" = some (.int 2 t_NOTE_HOUSE)) :
    FnOk P w K mg base (CXE P w) 7 f fd ["jar", "house"] (spE K FX_forgotten 2) :=
  fn_okE (k := 6) ["jar", "house"] ["jar", "house"] BX_forgotten (by kernel_rfl) (by kernel_rfl) Fn sc_forgotten fun cdv A outer s H E hr => (fss_cons (fs_expr (fe_callE (k' := 6) 6 ["thing"] FX_need_jar hx_need_jar hr (by decide) rfl (glb (by kernel_rfl)) (fa_cons (fe_lv 0) fa_nil))) (fss_cons (fs_expr (fe_callE (k' := 6) 4 ["thing"] FX_need_name hx_need_name hr (by decide) rfl (glb (by kernel_rfl)) (fa_cons (fe_cv 1) fa_nil))) (fss_one (fs_ret (fe_tuple (glb (by kernel_rfl)) m_tuple (fa_cons (fe_compF (defScope s_forgotten) ["jar", "house"] ["note"] [0] [("house", 1)] (by kernel_rfl) (by kernel_rfl) ⟨by kernel_rfl, by decide +kernel, by decide +kernel, by decide +kernel, by decide +kernel⟩ (by kernel_rfl) rfl (back1 _) (FI.toG (fi_seq (fe_lv 0))) (fun _ _ _ _ => fg_name 0 (show (["note", "house"] : List Str).Nodup by decide +kernel) (by kernel_rfl) (.inl (by kernel_rfl)) (.inr (by kernel_rfl))) (fun _ _ _ _ => (fe_lv 0)) (fun _ _ _ _ => ⟨_, rfl, (ft_not (ft_val (fe_callH (k' := 6) 1 ["one", "other"] F_lies_within h_lies_within hr (by decide) (glb (by kernel_rfl)) (fa_cons (fe_ix (fe_lv 0) (fe_gint (glb (by kernel_rfl)) m_NOTE_HOUSE)) (fa_cons (fe_cv 1) fa_nil)))))⟩)) fa_nil))))))
def BX_need_moment : FnS := (fIfS (bNot (fB (fCall F_is_moment 1 (aCons (fVar 0) aNil)))) (fRaise 6 (fC (.str "this is no moment"))) (fun ρ => some (.nx ρ)))
def FX_need_moment : List Dv → Option (Rs Dv) := runE 1 BX_need_moment
set_option maxHeartbeats 4000000 in
theorem fx_need_moment {P : Program} {w : World} {K : PySem.W.Frag} {mg : Str → Option Value} {base : Heap} {f : Addr} {fd : FuncData} (Fn : Fun K "need_moment" "need_moment" s_need_moment f fd) (h_is_moment : Has P w K mg base "is_moment" 2 ["thing"] F_is_moment) {cls : Nat → Addr} {CJ : Addr} (xa : XAll K 7 cls CJ) (m_NoNumber : mg "NoNumber" = some (.ref (cls 6))) :
    FnOk P w K mg base (CXE P w) 3 f fd ["thing"] (spE K FX_need_moment 1) :=
  fn_okE (k := 2) ["thing"] ["thing"] BX_need_moment (by kernel_rfl) (by kernel_rfl) Fn sc_need_moment fun cdv A outer s H E hr => (fss_one (fs_if (ft_not (ft_val (fe_callH (k' := 2) 2 ["thing"] F_is_moment h_is_moment hr (by decide) (glb (by kernel_rfl)) (fa_cons (fe_lv 0) fa_nil)))) (fss_one (fs_raise 6 (xa.xc 6 (by decide)) (by kernel_rfl) m_NoNumber rfl rfl (glb (by kernel_rfl)) fe_str)) fss_nil))
def B_has_ended : FnS := (fRet (vAnd (f2 notN (f2 ixD (fVar 0) (fC (.int 5))) (fC .non)) (f2 leX (f2 ixD (fVar 0) (fC (.int 5))) (fVar 1))))
def F_has_ended : List Dv → Option (Rs Dv) := runF 2 B_has_ended
set_option maxHeartbeats 4000000 in
theorem fn_has_ended {P : Program} {w : World} {K : PySem.W.Frag} {mg : Str → Option Value} {base : Heap} {f : Addr} {fd : FuncData} (Fn : Fun K "has_ended" "has_ended" s_has_ended f fd) {t_NOTE_ENDS : Tok} (m_NOTE_ENDS : mg "NOTE_ENDS" = some (.int 5 t_NOTE_ENDS)) :
    FnOk P w K mg base CX0 1 f fd ["note", "now"] (spF K F_has_ended 2) :=
  fn_ok2 (k := 0) ["note", "now"] ["note", "now"] B_has_ended (by kernel_rfl) (by kernel_rfl) Fn sc_has_ended fun cdv A outer s H E hr => (fss_one (fs_ret (fe_and (fe_cmp op_notN g_notN (fe_ix (fe_lv 0) (fe_gint (glb (by kernel_rfl)) m_NOTE_ENDS)) fe_non (nomark _)) (fe_one (fe_cmp o_leX g_leX (fe_ix (fe_lv 0) (fe_gint (glb (by kernel_rfl)) m_NOTE_ENDS)) (fe_lv 1) (nomark _))))))
def B_without_ended : FnS := (fRet (fB1 tupleD (aCons (fComp [("now", 1)] (iSeq (fVar 0)) (some (bNot (fB (fCall F_has_ended 2 (aCons (fVar 0) (aCons (fVar 1) aNil)))))) (fVar 0)) aNil)))
def F_without_ended : List Dv → Option (Rs Dv) := runF 2 B_without_ended
set_option maxHeartbeats 4000000 in
theorem fn_without_ended {P : Program} {w : World} {K : PySem.W.Frag} {mg : Str → Option Value} {base : Heap} {f : Addr} {fd : FuncData} (Fn : Fun K "without_ended" "without_ended" s_without_ended f fd) (h_has_ended : Has P w K mg base "has_ended" 1 ["note", "now"] F_has_ended) (m_tuple : mg "tuple" = none) :
    FnOk P w K mg base CX0 2 f fd ["notes", "now"] (spF K F_without_ended 2) :=
  fn_ok2 (k := 1) ["notes", "now"] ["notes", "now"] B_without_ended (by kernel_rfl) (by kernel_rfl) Fn sc_without_ended fun cdv A outer s H E hr => (fss_one (fs_ret (fe_tuple (glb (by kernel_rfl)) m_tuple (fa_cons (fe_compF (defScope s_without_ended) ["notes", "now"] ["note"] [0] [("now", 1)] (by kernel_rfl) (by kernel_rfl) ⟨by kernel_rfl, by decide +kernel, by decide +kernel, by decide +kernel, by decide +kernel⟩ (by kernel_rfl) rfl (back1 _) (FI.toG (fi_seq (fe_lv 0))) (fun _ _ _ _ => fg_name 0 (show (["note", "now"] : List Str).Nodup by decide +kernel) (by kernel_rfl) (.inl (by kernel_rfl)) (.inr (by kernel_rfl))) (fun _ _ _ _ => (fe_lv 0)) (fun _ _ _ _ => ⟨_, rfl, (ft_not (ft_val (fe_callH (k' := 1) 1 ["note", "now"] F_has_ended h_has_ended hr (by decide) (glb (by kernel_rfl)) (fa_cons (fe_lv 0) (fa_cons (fe_cv 1) fa_nil)))))⟩)) fa_nil))))
def BX_swept : FnS := (fSeq (fDrop (fCallE FX_need_jar 1 (aCons (fVar 0) aNil))) (fSeq (fDrop (fCallE FX_need_moment 1 (aCons (fVar 1) aNil))) (fRet (fCall F_without_ended 2 (aCons (fVar 0) (aCons (fVar 1) aNil))))))
def FX_swept : List Dv → Option (Rs Dv) := runE 2 BX_swept
set_option maxHeartbeats 4000000 in
theorem fx_swept {P : Program} {w : World} {K : PySem.W.Frag} {mg : Str → Option Value} {base : Heap} {f : Addr} {fd : FuncData} (Fn : Fun K "swept" "swept" s_swept f fd) (hx_need_jar : HasE P w K mg base "need_jar" 6 ["thing"] FX_need_jar) (hx_need_moment : HasE P w K mg base "need_moment" 3 ["thing"] FX_need_moment) (h_without_ended : Has P w K mg base "without_ended" 2 ["notes", "now"] F_without_ended) :
    FnOk P w K mg base (CXE P w) 7 f fd ["jar", "now"] (spE K FX_swept 2) :=
  fn_okE (k := 6) ["jar", "now"] ["jar", "now"] BX_swept (by kernel_rfl) (by kernel_rfl) Fn sc_swept fun cdv A outer s H E hr => (fss_cons (fs_expr (fe_callE (k' := 6) 6 ["thing"] FX_need_jar hx_need_jar hr (by decide) rfl (glb (by kernel_rfl)) (fa_cons (fe_lv 0) fa_nil))) (fss_cons (fs_expr (fe_callE (k' := 6) 3 ["thing"] FX_need_moment hx_need_moment hr (by decide) rfl (glb (by kernel_rfl)) (fa_cons (fe_lv 1) fa_nil))) (fss_one (fs_ret (fe_callH (k' := 6) 2 ["notes", "now"] F_without_ended h_without_ended hr (by decide) (glb (by kernel_rfl)) (fa_cons (fe_lv 0) (fa_cons (fe_lv 1) fa_nil)))))))
def B__law_told : FnS := (fTry 7 3 4 (fIf (fB (f2 eqX (fVar 0) (fC (.int 0)))) (fCallE FX_swept 2 (aCons (fVar 1) (aCons (fVar 2) aNil))) (fCallE FX_forgotten 2 (aCons (fVar 1) (aCons (fVar 2) aNil)))) (fCall FM__law_refused 1 (aCons (fVar 3) aNil)))
def F__law_told : List Dv → Option (Rs Dv) := runF 4 B__law_told
set_option maxHeartbeats 4000000 in
theorem fn__law_told {P : Program} {w : World} {K : PySem.W.Frag} {mg : Str → Option Value} {base : Heap} {f : Addr} {fd : FuncData} (Fn : Fun K "_law_told" "_law_told" s__law_told f fd) (hm__law_refused : HasM P w K mg base "_law_refused" 1 ["_law_e"] FM__law_refused) (hx_forgotten : HasE P w K mg base "forgotten" 7 ["jar", "house"] FX_forgotten) (hx_swept : HasE P w K mg base "swept" 7 ["jar", "now"] FX_swept) {cls : Nat → Addr} {CJ : Addr} (xa : XAll K 7 cls CJ) (m_JarError : mg "JarError" = some (.ref CJ)) :
    FnOk P w K mg base CX0 8 f fd ["_law_way", "_law_jar_here", "_law_thing"] (spF K F__law_told 3) :=
  fn_ok2 (k := 7) ["_law_way", "_law_jar_here", "_law_thing", "_law_e"] ["_law_way", "_law_jar_here", "_law_thing"] B__law_told (by kernel_rfl) (by kernel_rfl) Fn sc__law_told fun cdv A outer s H E hr => (fss_one (fs_try 7 3 4 rfl rfl rfl (glb (by kernel_rfl)) m_JarError xa.exJ xa.xk sc__law_told.nd (by kernel_rfl) (by kernel_rfl) rfl (fun pl E' => (fe_if (ft_cmp (o_eqX hr.units) g_eqX (fe_lv 0) fe_int (nomark _)) (fe_callE (k' := 7) 7 ["jar", "now"] FX_swept hx_swept hr (by decide) rfl (glb (by kernel_rfl)) (fa_cons (fe_lv 1) (fa_cons (fe_lv 2) fa_nil))) (fe_callE (k' := 7) 7 ["jar", "house"] FX_forgotten hx_forgotten hr (by decide) rfl (glb (by kernel_rfl)) (fa_cons (fe_lv 1) (fa_cons (fe_lv 2) fa_nil))))) (fun pl e => (fe_callM (k' := 7) 1 ["_law_e"] FM__law_refused hm__law_refused ⟨hr.dp, hr.un⟩ (by decide) (glb (by kernel_rfl)) (fa_cons (fe_lv 3) fa_nil)))))
def B__law_within : FnS := (fRet (vOr (f2 eqX (fVar 0) (fVar 1)) (fM (strB Txt.endswith) (fVar 0) (aCons (f2 addD (fC (.str ".")) (fVar 1)) aNil))))
def F__law_within : List Dv → Option (Rs Dv) := runF 2 B__law_within
set_option maxHeartbeats 4000000 in
theorem fn__law_within {P : Program} {w : World} {K : PySem.W.Frag} {mg : Str → Option Value} {base : Heap} {f : Addr} {fd : FuncData} (Fn : Fun K "_law_within" "_law_within" s__law_within f fd) :
    FnOk P w K mg base CX0 1 f fd ["_law_one", "_law_other"] (spF K F__law_within 2) :=
  fn_ok2 (k := 0) ["_law_one", "_law_other"] ["_law_one", "_law_other"] B__law_within (by kernel_rfl) (by kernel_rfl) Fn sc__law_within fun cdv A outer s H E hr => (fss_one (fs_ret (fe_or (fe_cmp (o_eqX hr.units) g_eqX (fe_lv 0) (fe_lv 1) (nomark _)) (fe_one (fe_strM PySem.F.slot_str_endswith PySem.F.type_str_endswith mt_ew g_strB (fe_lv 0) (fa_cons (fe_op o_add g_add fe_str (fe_lv 1)) fa_nil))))))
def B_put : FnS := (fSeq (fSet 2 (fCompG 1 [("note", 1)] (iSeq (fVar 0)) (gN 0) (some (fB (f2 eqX (fCall F_key 1 (aCons (fVar 0) aNil)) (fCall F_key 1 (aCons (fVar 1) aNil))))) (fVar 0))) (fSeq (fIfS (fB (f2 eqX (fVar 2) (fLst aNil))) (fRet (f2 addT (fVar 0) (fTup (aCons (fVar 1) aNil)))) (fun ρ => some (.nx ρ))) (fSeq (fSet 3 (f2 addT (f2 addT (fCutT (fVar 1) oNone (oSome (fC (.int 8)))) (fTup (aCons (f2 ixD (f2 ixD (fVar 2) (fC (.int 0))) (fC (.int 8))) aNil))) (fCutT (fVar 1) (oSome (f2 addT (fC (.int 8)) (fC (.int 1)))) oNone))) (fRet (fB1 tupleD (aCons (fComp [("note", 1), ("newer", 3)] (iSeq (fVar 0)) none (fIf (fB (f2 eqX (fCall F_key 1 (aCons (fVar 0) aNil)) (fCall F_key 1 (aCons (fVar 1) aNil)))) (fVar 2) (fVar 0))) aNil))))))
def F_put : List Dv → Option (Rs Dv) := runF 4 B_put
set_option maxHeartbeats 4000000 in
theorem fn_put {P : Program} {w : World} {K : PySem.W.Frag} {mg : Str → Option Value} {base : Heap} {f : Addr} {fd : FuncData} (Fn : Fun K "put" "put" s_put f fd) (h_key : Has P w K mg base "key" 1 ["note"] F_key) (m_tuple : mg "tuple" = none) {t_NOTE_MADE : Tok} (m_NOTE_MADE : mg "NOTE_MADE" = some (.int 8 t_NOTE_MADE)) :
    FnOk P w K mg base CX0 2 f fd ["jar", "note"] (spF K F_put 2) :=
  fn_ok2 (k := 1) ["jar", "note", "same", "newer"] ["jar", "note"] B_put (by kernel_rfl) (by kernel_rfl) Fn sc_put fun cdv A outer s H E hr => (fss_cons (fs_setF (ps_setC 2 sc_put.nd (by kernel_rfl) (.inl (by kernel_rfl)) (.inl rfl) (defScope s_put) ["jar", "note", "same", "newer"] ["old"] [0] [("note", 1)] (by kernel_rfl) (by kernel_rfl) ⟨by kernel_rfl, by decide +kernel, by decide +kernel, by decide +kernel, by decide +kernel⟩ (by kernel_rfl) rfl (back1 _) (FI.toG (fi_seq (fe_lv 0))) (fun _ _ _ _ => fg_name 0 (show (["old", "note"] : List Str).Nodup by decide +kernel) (by kernel_rfl) (.inl (by kernel_rfl)) (.inr (by kernel_rfl))) (fun _ _ _ _ => (fe_lv 0)) (fun _ _ _ _ => ⟨_, rfl, (ft_cmp (o_eqX hr.units) g_eqX (fe_callH (k' := 1) 1 ["note"] F_key h_key hr (by decide) (glb (by kernel_rfl)) (fa_cons (fe_lv 0) fa_nil)) (fe_callH (k' := 1) 1 ["note"] F_key h_key hr (by decide) (glb (by kernel_rfl)) (fa_cons (fe_cv 1) fa_nil)) (nomark _))⟩)) compG_lst) (fss_cons (fs_if (ft_cmp (o_eqX hr.units) g_eqX (fe_lv 2) (fe_lst fa_nil) (nomark _)) (fss_one (fs_ret (fe_op o_addT g_addT (fe_lv 0) (fe_tup (fa_cons (fe_cv 1) fa_nil))))) fss_nil) (fss_cons (fs_set 3 sc_put.nd (by kernel_rfl) (.inr (by kernel_rfl)) (fe_op o_addT g_addT (fe_op o_addT g_addT (fe_cutT (fe_cv 1) fo_none (fo_some (fe_gint (glb (by kernel_rfl)) m_NOTE_MADE))) (fe_tup (fa_cons (fe_ix (fe_ix (fe_lv 2) fe_int) (fe_gint (glb (by kernel_rfl)) m_NOTE_MADE)) fa_nil))) (fe_cutT (fe_cv 1) (fo_some (fe_op o_addT g_addT (fe_gint (glb (by kernel_rfl)) m_NOTE_MADE) fe_int)) fo_none))) (fss_one (fs_ret (fe_tuple (glb (by kernel_rfl)) m_tuple (fa_cons (fe_compF (defScope s_put) ["jar", "note", "same", "newer"] ["old"] [0] [("note", 1), ("newer", 3)] (by kernel_rfl) (by kernel_rfl) ⟨by kernel_rfl, by decide +kernel, by decide +kernel, by decide +kernel, by decide +kernel⟩ (by kernel_rfl) rfl (back1 _) (FI.toG (fi_seq (fe_lv 0))) (fun _ _ _ _ => fg_name 0 (show (["old", "note", "newer"] : List Str).Nodup by decide +kernel) (by kernel_rfl) (.inl (by kernel_rfl)) (.inr (by kernel_rfl))) (fun _ _ _ _ => (fe_if (ft_cmp (o_eqX hr.units) g_eqX (fe_callH (k' := 1) 1 ["note"] F_key h_key hr (by decide) (glb (by kernel_rfl)) (fa_cons (fe_lv 0) fa_nil)) (fe_callH (k' := 1) 1 ["note"] F_key h_key hr (by decide) (glb (by kernel_rfl)) (fa_cons (fe_cv 1) fa_nil)) (nomark _)) (fe_cv 2) (fe_lv 0))) (fun _ _ _ _ => rfl)) fa_nil)))))))
def v_law_0 : FnE := (fCall F__law_jar 3 (aCons (fVar 0) (aCons (fC (.int 0)) (aCons (fC (.int 5)) aNil))))
def v_law_1 : FnE := (fCall F__law_jar 3 (aCons (fVar 0) (aCons (fC (.int 100)) (aCons (fC (.int 3)) aNil))))
def v_law_2 : FnE := (fCall F__law_drawn 3 (aCons (fVar 0) (aCons (fC (.int 90)) (aCons (f2 addT (fB1 lenD (aCons (fVar 1) aNil)) (fC (.int 1))) aNil))))
def v_law_3 : FnE := (f2 ixD (fLst (aCons (fC .non) (aCons (fTup aNil) (aCons (fCutT (fVar 1) oNone (oSome (fC (.int 1)))) (aCons (f2 mulT (fTup (aCons (fC (.str "n")) aNil)) (fC (.int 10))) aNil))))) (fCall F__law_drawn 3 (aCons (fVar 0) (aCons (fC (.int 91)) (aCons (fC (.int 4)) aNil)))))
def v_law_4 : FnE := (fLst (aCons (fVar 1) (aCons (fBack (fVar 1)) (aCons (f2 addT (fVar 1) (fCutT (fVar 1) oNone (oSome (fC (.int 1))))) (aCons (f2 addT (fVar 1) (fVar 2)) (aCons (f2 addT (f2 addT (fCutT (fVar 1) oNone (oSome (fVar 3))) (fTup (aCons (fVar 4) aNil))) (fCutT (fVar 1) (oSome (fVar 3)) oNone)) (aCons (fB1 listD (aCons (fVar 1) aNil)) (aCons (fC .non) (aCons (fTup aNil) aNil)))))))))
def v_law_5 : FnE := (fCall F_is_jar 1 (aCons (fVar 6) aNil))
def c_law_0 : FnB := (bOr (bNot (fB (f1 (isiD tbBool) (fVar 7)))) (fB (f2 neX (fVar 7) (fCall F__law_is_jar 1 (aCons (fVar 6) aNil)))))
def c_law_1 : FnB := (bAnd (bNot (fB (fVar 7))) (fB (f2 neX (fComp [("_law_thing", 6)] (fun ρ => bnd ((aCons (fC (.int 2)) aNil) ρ) rng1) none (fCall F__law_told 3 (aCons (fVar 0) (aCons (fVar 1) (aCons (fC .non) aNil))))) (f2 mulL (fLst (aCons (fTup (aCons (fC (.str "refused")) (aCons (fC (.int 5)) aNil))) aNil)) (fC (.int 2))))))
def b_law_0 : FnS := (fSeq (fSet 7 v_law_5) (fSeq (fIfS c_law_0 (fRet (fC (.bl false))) (fun ρ => some (.nx ρ))) (fIfS c_law_1 (fRet (fC (.bl false))) (fun ρ => some (.nx ρ)))))
def v_law_6 : FnE := (fCall F__law_drawn 3 (aCons (fVar 0) (aCons (fC (.int 92)) (aCons (fC (.int 60)) aNil))))
def c_law_2 : FnB := (fB (f2 neX (fCall F__law_told 3 (aCons (fC (.int 0)) (aCons (fVar 1) (aCons (fVar 8) aNil)))) (fB1 tupleD (aCons (fComp [("_law_now", 8)] (iSeq (fVar 1)) (some (bOr (fB (f2 isN (f2 ixD (fVar 0) (fC (.int 5))) (fC .non))) (fB (f2 gtD (f2 ixD (fVar 0) (fC (.int 5))) (fVar 1))))) (fVar 0)) aNil))))
def v_law_7 : FnE := (fCall F__law_name 2 (aCons (fVar 0) (aCons (fC (.int 93)) aNil)))
def c_law_3 : FnB := (fB (f2 neX (fCall F__law_told 3 (aCons (fC (.int 1)) (aCons (fVar 1) (aCons (fVar 9) aNil)))) (fB1 tupleD (aCons (fComp [("_law_house", 9)] (iSeq (fVar 1)) (some (bNot (fB (fCall F__law_within 2 (aCons (f2 ixD (fVar 0) (fC (.int 2))) (aCons (fVar 1) aNil)))))) (fVar 0)) aNil))))
def v_law_8 : FnE := (fB1 maxL (aCons (f2 addT (fComp [] (iSeq (fVar 1)) none (f2 ixD (fVar 0) (fC (.int 8)))) (fLst (aCons (fC (.int 0)) aNil))) aNil))
def v_law_9 : FnE := (f2 addT (fCutT (fVar 11) oNone (oSome (fC (.int 8)))) (fTup (aCons (f2 addT (fVar 10) (fC (.int 1))) (aCons (f2 addT (fVar 10) (fC (.int 2))) aNil))))
def v_law_10 : FnE := (fCompG 1 [] (iSeq (fVar 1)) (gN 0) none (fVar 0))
def v_law_11 : FnE := (fCompG 2 [("_law_note", 11)] (fun ρ => bnd ((aCons (fVar 1) aNil) ρ) enumT) (gP 0 1) (some (fB (f2 eqX (fTup (aCons (f2 ixD (fVar 1) (fC (.int 0))) (aCons (f2 ixD (fVar 1) (fC (.int 2))) (aCons (f2 ixD (fVar 1) (fC (.int 4))) aNil)))) (fTup (aCons (f2 ixD (fVar 2) (fC (.int 0))) (aCons (f2 ixD (fVar 2) (fC (.int 2))) (aCons (f2 ixD (fVar 2) (fC (.int 4))) aNil))))))) (fVar 0))
def b_law_1 : FnS := (fSeq (fSet 12 v_law_9) (fOwnC 13 v_law_10 (oSeq (oSet 14 v_law_11) (oSeq (oIf (fB (f2 eqX (fVar 14) (fLst aNil))) (oApp (fVar 12)) (oStore (f2 ixD (fVar 14) (fC (.int 0))) (f2 addT (fCutT (fVar 12) oNone (oSome (fC (.int 8)))) (fTup (aCons (f2 ixD (f2 ixD (fVar 1) (f2 ixD (fVar 14) (fC (.int 0)))) (fC (.int 8))) (aCons (f2 ixD (fVar 12) (fC (.int 9))) aNil)))))) (oIfR 13 (fB (f2 neX (fCall F_put 2 (aCons (fVar 1) (aCons (fVar 12) aNil))) (fB1 tupleD (aCons (fVar 13) aNil)))) (oRet 13 (fC (.bl false))) oNil)))))
def v_law_12 : FnE := (f2 ixD (fLst (aCons (f1 negD (fC (.int 1))) (aCons (fC (.int 10000)) (aCons (fC .non) (aCons (fC (.bl true)) aNil))))) (fCall F__law_drawn 3 (aCons (fVar 0) (aCons (fC (.int 94)) (aCons (fC (.int 4)) aNil)))))
def c_law_4 : FnB := (fB (f2 neX (fCall F__law_told 3 (aCons (fC (.int 0)) (aCons (fVar 1) (aCons (fVar 4) aNil)))) (fTup (aCons (fC (.str "refused")) (aCons (fC (.int 6)) aNil)))))
def r_law_0 : FnE := (f2 eqX (fCall F__law_told 3 (aCons (fC (.int 1)) (aCons (fVar 1) (aCons (f2 ixD (fLst (aCons (fC (.str "")) (aCons (fC .non) (aCons (fC (.str "a..b")) (aCons (fC (.int 1)) aNil))))) (fCall F__law_drawn 3 (aCons (fVar 0) (aCons (fC (.int 95)) (aCons (fC (.int 4)) aNil))))) aNil)))) (fTup (aCons (fC (.str "refused")) (aCons (fC (.int 0)) aNil))))
def B_law : FnS := (fSeq (fSet 1 v_law_0) (fSeq (fSet 2 v_law_1) (fSeq (fSet 3 v_law_2) (fSeq (fSet 4 v_law_3) (fSeq (fSet 5 v_law_4) (fSeq (fFor 6 [6, 7] (iSeq (f2 addT (fVar 5) (fLst (aCons (fCall F__law_many 1 (aCons (fC (.int 20)) aNil)) (aCons (fCall F__law_many 1 (aCons (fC (.int 21)) aNil)) (aCons (f2 addT (fVar 2) (fVar 1)) (aCons (fVar 4) aNil))))))) b_law_0) (fSeq (fSet 8 v_law_6) (fSeq (fIfS c_law_2 (fRet (fC (.bl false))) (fun ρ => some (.nx ρ))) (fSeq (fSet 9 v_law_7) (fSeq (fIfS c_law_3 (fRet (fC (.bl false))) (fun ρ => some (.nx ρ))) (fSeq (fSet 10 v_law_8) (fSeq (fFor 11 [11, 12, 13, 14] (iSeq (fVar 2)) b_law_1) (fSeq (fSet 4 v_law_12) (fSeq (fIfS c_law_4 (fRet (fC (.bl false))) (fun ρ => some (.nx ρ))) (fRet r_law_0)))))))))))))))
def F_law : List Dv → Option (Rs Dv) := runF 15 B_law
set_option maxHeartbeats 4000000 in
theorem fn_law {P : Program} {w : World} {K : PySem.W.Frag} {mg : Str → Option Value} {base : Heap} {f : Addr} {fd : FuncData} (Fn : Fun K "law" "law" s_law f fd) (h__law_drawn : Has P w K mg base "_law_drawn" 2 ["_law_script", "_law_k", "_law_many_here"] F__law_drawn) (h__law_is_jar : Has P w K mg base "_law_is_jar" 5 ["_law_thing"] F__law_is_jar) (h__law_jar : Has P w K mg base "_law_jar" 4 ["_law_script", "_law_at", "_law_many_here"] F__law_jar) (h__law_many : Has P w K mg base "_law_many" 1 ["_law_many_here"] F__law_many) (h__law_name : Has P w K mg base "_law_name" 3 ["_law_script", "_law_at"] F__law_name) (h__law_told : Has P w K mg base "_law_told" 8 ["_law_way", "_law_jar_here", "_law_thing"] F__law_told) (h__law_within : Has P w K mg base "_law_within" 1 ["_law_one", "_law_other"] F__law_within) (h_is_jar : Has P w K mg base "is_jar" 5 ["thing"] F_is_jar) (h_put : Has P w K mg base "put" 2 ["jar", "note"] F_put) (m_bool : mg "bool" = none) (m_enumerate : mg "enumerate" = none) (m_isinstance : mg "isinstance" = none) (m_len : mg "len" = none) (m_list : mg "list" = none) (m_max : mg "max" = none) (m_range : mg "range" = none) (m_tuple : mg "tuple" = none) :
    FnOk P w K mg base CX0 9 f fd ["_law_script"] (spF K F_law 1) :=
  fn_ok2 (k := 8) ["_law_script", "_law_jar_here", "_law_more", "_law_at", "_law_odd", "_law_things", "_law_thing", "_law_told_here", "_law_now", "_law_house", "_law_last", "_law_note", "_law_late", "_law_due", "_law_places"] ["_law_script"] B_law (by kernel_rfl) (by kernel_rfl) Fn sc_law fun cdv A outer s H E hr => (fss_cons (fs_set 1 sc_law.nd (by kernel_rfl) (.inl (by kernel_rfl)) (fe_callH (k' := 8) 4 ["_law_script", "_law_at", "_law_many_here"] F__law_jar h__law_jar hr (by decide) (glb (by kernel_rfl)) (fa_cons (fe_lv 0) (fa_cons fe_int (fa_cons fe_int fa_nil))))) (fss_cons (fs_set 2 sc_law.nd (by kernel_rfl) (.inl (by kernel_rfl)) (fe_callH (k' := 8) 4 ["_law_script", "_law_at", "_law_many_here"] F__law_jar h__law_jar hr (by decide) (glb (by kernel_rfl)) (fa_cons (fe_lv 0) (fa_cons fe_int (fa_cons fe_int fa_nil))))) (fss_cons (fs_set 3 sc_law.nd (by kernel_rfl) (.inl (by kernel_rfl)) (fe_callH (k' := 8) 2 ["_law_script", "_law_k", "_law_many_here"] F__law_drawn h__law_drawn hr (by decide) (glb (by kernel_rfl)) (fa_cons (fe_lv 0) (fa_cons fe_int (fa_cons (fe_op o_addT g_addT (fe_len (glb (by kernel_rfl)) m_len (fa_cons (fe_lv 1) fa_nil)) fe_int) fa_nil))))) (fss_cons (fs_set 4 sc_law.nd (by kernel_rfl) (.inl (by kernel_rfl)) (fe_ix (fe_lst (fa_cons fe_non (fa_cons (fe_tup fa_nil) (fa_cons (fe_cutT (fe_lv 1) fo_none (fo_some fe_int)) (fa_cons (fe_op o_mulT g_mulT (fe_tup (fa_cons fe_str fa_nil)) fe_int) fa_nil))))) (fe_callH (k' := 8) 2 ["_law_script", "_law_k", "_law_many_here"] F__law_drawn h__law_drawn hr (by decide) (glb (by kernel_rfl)) (fa_cons (fe_lv 0) (fa_cons fe_int (fa_cons fe_int fa_nil)))))) (fss_cons (fs_set 5 sc_law.nd (by kernel_rfl) (.inl (by kernel_rfl)) (fe_lst (fa_cons (fe_lv 1) (fa_cons (fe_back (fe_lv 1) (fe_neg fe_int)) (fa_cons (fe_op o_addT g_addT (fe_lv 1) (fe_cutT (fe_lv 1) fo_none (fo_some fe_int))) (fa_cons (fe_op o_addT g_addT (fe_lv 1) (fe_lv 2)) (fa_cons (fe_op o_addT g_addT (fe_op o_addT g_addT (fe_cutT (fe_lv 1) fo_none (fo_some (fe_lv 3))) (fe_tup (fa_cons (fe_lv 4) fa_nil))) (fe_cutT (fe_lv 1) (fo_some (fe_lv 3)) fo_none)) (fa_cons (fe_list (glb (by kernel_rfl)) m_list (fa_cons (fe_lv 1) fa_nil)) (fa_cons fe_non (fa_cons (fe_tup fa_nil) fa_nil)))))))))) (fss_cons (fs_for 6 [6, 7] PassesOwn.never rfl (fi_seq (fe_op o_addT g_addT (fe_lv 5) (fe_lst (fa_cons (fe_callH (k' := 8) 1 ["_law_many_here"] F__law_many h__law_many hr (by decide) (glb (by kernel_rfl)) (fa_cons fe_int fa_nil)) (fa_cons (fe_callH (k' := 8) 1 ["_law_many_here"] F__law_many h__law_many hr (by decide) (glb (by kernel_rfl)) (fa_cons fe_int fa_nil)) (fa_cons (fe_op o_addT g_addT (fe_lv 2) (fe_lv 1)) (fa_cons (fe_lv 4) fa_nil))))))) (pg_name (i := 6) sc_law.nd (by kernel_rfl) (.inr (by kernel_rfl)) (.inl rfl)) (fss_cons (fs_set 7 sc_law.nd (by kernel_rfl) (.inl (by kernel_rfl)) (fe_callH (k' := 8) 5 ["thing"] F_is_jar h_is_jar hr (by decide) (glb (by kernel_rfl)) (fa_cons (fe_cv 6) fa_nil))) (fss_cons (fs_if (FW.ft (fw_or (ft_not (ft_val (fe_isi (T := "bool") kit_bool bt_bool (by decide +kernel) (by kernel_rfl) (glb (by kernel_rfl)) m_isinstance (glb (by kernel_rfl)) m_bool (fe_lv 7)))) (fw_or1 (ft_cmp (o_neX hr.units) g_neX (fe_lv 7) (fe_callH (k' := 8) 5 ["_law_thing"] F__law_is_jar h__law_is_jar hr (by decide) (glb (by kernel_rfl)) (fa_cons (fe_cv 6) fa_nil)) (nomark _))))) (fss_one (fs_ret fe_bl)) fss_nil) (fss_one (fs_if (FW.ft (fw_and (ft_not (ft_val (fe_lv 7))) (fw_and1 (ft_cmp (o_neX hr.units) g_neX (fe_compF (defScope s_law) ["_law_script", "_law_jar_here", "_law_more", "_law_at", "_law_odd", "_law_things", "_law_thing", "_law_told_here", "_law_now", "_law_house", "_law_last", "_law_note", "_law_late", "_law_due", "_law_places"] ["_law_way"] [0] [("_law_thing", 6)] (by kernel_rfl) (by kernel_rfl) ⟨by kernel_rfl, by decide +kernel, by decide +kernel, by decide +kernel, by decide +kernel⟩ (by kernel_rfl) rfl (back1 _) (FI.toG (fi_range1 (glb (by kernel_rfl)) m_range (fa_cons fe_int fa_nil))) (fun _ _ _ _ => fg_name 0 (show (["_law_way", "_law_thing"] : List Str).Nodup by decide +kernel) (by kernel_rfl) (.inl (by kernel_rfl)) (.inr (by kernel_rfl))) (fun _ _ _ _ => (fe_callH (k' := 8) 8 ["_law_way", "_law_jar_here", "_law_thing"] F__law_told h__law_told hr (by decide) (glb (by kernel_rfl)) (fa_cons (fe_lv 0) (fa_cons (fe_cv 1) (fa_cons fe_non fa_nil))))) (fun _ _ _ _ => rfl)) (fe_op o_mulL g_mulL (fe_lst (fa_cons (fe_tup (fa_cons fe_str (fa_cons fe_int fa_nil))) fa_nil)) fe_int) (nomark _))))) (fss_one (fs_ret fe_bl)) fss_nil))))) (fss_cons (fs_set 8 sc_law.nd (by kernel_rfl) (.inr (by kernel_rfl)) (fe_callH (k' := 8) 2 ["_law_script", "_law_k", "_law_many_here"] F__law_drawn h__law_drawn hr (by decide) (glb (by kernel_rfl)) (fa_cons (fe_lv 0) (fa_cons fe_int (fa_cons fe_int fa_nil))))) (fss_cons (fs_if (ft_cmp (o_neX hr.units) g_neX (fe_callH (k' := 8) 8 ["_law_way", "_law_jar_here", "_law_thing"] F__law_told h__law_told hr (by decide) (glb (by kernel_rfl)) (fa_cons fe_int (fa_cons (fe_lv 1) (fa_cons (fe_cv 8) fa_nil)))) (fe_tuple (glb (by kernel_rfl)) m_tuple (fa_cons (fe_compF (defScope s_law) ["_law_script", "_law_jar_here", "_law_more", "_law_at", "_law_odd", "_law_things", "_law_thing", "_law_told_here", "_law_now", "_law_house", "_law_last", "_law_note", "_law_late", "_law_due", "_law_places"] ["_law_note"] [0] [("_law_now", 8)] (by kernel_rfl) (by kernel_rfl) ⟨by kernel_rfl, by decide +kernel, by decide +kernel, by decide +kernel, by decide +kernel⟩ (by kernel_rfl) rfl (back1 _) (FI.toG (fi_seq (fe_lv 1))) (fun _ _ _ _ => fg_name 0 (show (["_law_note", "_law_now"] : List Str).Nodup by decide +kernel) (by kernel_rfl) (.inl (by kernel_rfl)) (.inr (by kernel_rfl))) (fun _ _ _ _ => (fe_lv 0)) (fun _ _ _ _ => ⟨_, rfl, (FW.ft (fw_or (ft_cmp op_isN g_isN (fe_ix (fe_lv 0) fe_int) fe_non (nomark _)) (fw_or1 (ft_cmp op_gt (g_cmp _) (fe_ix (fe_lv 0) fe_int) (fe_cv 1) (nomark _)))))⟩)) fa_nil)) (nomark _)) (fss_one (fs_ret fe_bl)) fss_nil) (fss_cons (fs_set 9 sc_law.nd (by kernel_rfl) (.inr (by kernel_rfl)) (fe_callH (k' := 8) 3 ["_law_script", "_law_at"] F__law_name h__law_name hr (by decide) (glb (by kernel_rfl)) (fa_cons (fe_lv 0) (fa_cons fe_int fa_nil)))) (fss_cons (fs_if (ft_cmp (o_neX hr.units) g_neX (fe_callH (k' := 8) 8 ["_law_way", "_law_jar_here", "_law_thing"] F__law_told h__law_told hr (by decide) (glb (by kernel_rfl)) (fa_cons fe_int (fa_cons (fe_lv 1) (fa_cons (fe_cv 9) fa_nil)))) (fe_tuple (glb (by kernel_rfl)) m_tuple (fa_cons (fe_compF (defScope s_law) ["_law_script", "_law_jar_here", "_law_more", "_law_at", "_law_odd", "_law_things", "_law_thing", "_law_told_here", "_law_now", "_law_house", "_law_last", "_law_note", "_law_late", "_law_due", "_law_places"] ["_law_note"] [0] [("_law_house", 9)] (by kernel_rfl) (by kernel_rfl) ⟨by kernel_rfl, by decide +kernel, by decide +kernel, by decide +kernel, by decide +kernel⟩ (by kernel_rfl) rfl (back1 _) (FI.toG (fi_seq (fe_lv 1))) (fun _ _ _ _ => fg_name 0 (show (["_law_note", "_law_house"] : List Str).Nodup by decide +kernel) (by kernel_rfl) (.inl (by kernel_rfl)) (.inr (by kernel_rfl))) (fun _ _ _ _ => (fe_lv 0)) (fun _ _ _ _ => ⟨_, rfl, (ft_not (ft_val (fe_callH (k' := 8) 1 ["_law_one", "_law_other"] F__law_within h__law_within hr (by decide) (glb (by kernel_rfl)) (fa_cons (fe_ix (fe_lv 0) fe_int) (fa_cons (fe_cv 1) fa_nil)))))⟩)) fa_nil)) (nomark _)) (fss_one (fs_ret fe_bl)) fss_nil) (fss_cons (fs_set 10 sc_law.nd (by kernel_rfl) (.inl (by kernel_rfl)) (fe_maxL rfl (glb (by kernel_rfl)) m_max (fa_cons (fe_op o_addT g_addT (fe_compF (defScope s_law) ["_law_script", "_law_jar_here", "_law_more", "_law_at", "_law_odd", "_law_things", "_law_thing", "_law_told_here", "_law_now", "_law_house", "_law_last", "_law_note", "_law_late", "_law_due", "_law_places"] ["_law_note"] [0] [] (by kernel_rfl) (by kernel_rfl) ⟨by kernel_rfl, by decide +kernel, by decide +kernel, by decide +kernel, by decide +kernel⟩ (by kernel_rfl) rfl (back1 _) (FI.toG (fi_seq (fe_lv 1))) (fun _ _ _ _ => fg_name 0 (show (["_law_note"] : List Str).Nodup by decide +kernel) (by kernel_rfl) (.inl (by kernel_rfl)) (.inr (by kernel_rfl))) (fun _ _ _ _ => (fe_ix (fe_lv 0) fe_int)) (fun _ _ _ _ => rfl)) (fe_lst (fa_cons fe_int fa_nil))) fa_nil))) (fss_cons (fs_for 11 [11, 12, 13, 14] PassesOwn.never rfl (fi_seq (fe_lv 2)) (pg_name (i := 11) sc_law.nd (by kernel_rfl) (.inr (by kernel_rfl)) (.inl rfl)) (fss_cons (fs_set 12 sc_law.nd (by kernel_rfl) (.inl (by kernel_rfl)) (fe_op o_addT g_addT (fe_cutT (fe_cv 11) fo_none (fo_some fe_int)) (fe_tup (fa_cons (fe_op o_addT g_addT (fe_lv 10) fe_int) (fa_cons (fe_op o_addT g_addT (fe_lv 10) fe_int) fa_nil))))) (fss_ownC (i := 13) (x := "_law_due") (by kernel_rfl) (ps_setC 13 sc_law.nd (by kernel_rfl) (.inl (by kernel_rfl)) (.inl rfl) (defScope s_law) ["_law_script", "_law_jar_here", "_law_more", "_law_at", "_law_odd", "_law_things", "_law_thing", "_law_told_here", "_law_now", "_law_house", "_law_last", "_law_note", "_law_late", "_law_due", "_law_places"] ["_law_old"] [0] [] (by kernel_rfl) (by kernel_rfl) ⟨by kernel_rfl, by decide +kernel, by decide +kernel, by decide +kernel, by decide +kernel⟩ (by kernel_rfl) rfl (back1 _) (FI.toG (fi_seq (fe_lv 1))) (fun _ _ _ _ => fg_name 0 (show (["_law_old"] : List Str).Nodup by decide +kernel) (by kernel_rfl) (.inl (by kernel_rfl)) (.inr (by kernel_rfl))) (fun _ _ _ _ => (fe_lv 0)) (fun _ _ _ _ => rfl)) (fos_cons (fo_setC rfl 14 (by decide) (ps_setC 14 sc_law.nd (by kernel_rfl) (.inl (by kernel_rfl)) (.inl rfl) (defScope s_law) ["_law_script", "_law_jar_here", "_law_more", "_law_at", "_law_odd", "_law_things", "_law_thing", "_law_told_here", "_law_now", "_law_house", "_law_last", "_law_note", "_law_late", "_law_due", "_law_places"] ["_law_k", "_law_old"] [0, 1] [("_law_note", 11)] (by kernel_rfl) (by kernel_rfl) ⟨by kernel_rfl, by decide +kernel, by decide +kernel, by decide +kernel, by decide +kernel⟩ (by kernel_rfl) rfl (back2 _) (fig_enT (glb (by kernel_rfl)) m_enumerate (fa_cons (fe_lv 1) fa_nil)) (fun _ _ _ _ => fg_pair 0 1 rfl (show (["_law_k", "_law_old", "_law_note"] : List Str).Nodup by decide +kernel) (by kernel_rfl) (.inl (by kernel_rfl)) (.inr (by kernel_rfl)) (by kernel_rfl) (.inl (by kernel_rfl)) (.inr (by kernel_rfl))) (fun _ _ _ _ => (fe_lv 0)) (fun _ _ _ _ => ⟨_, rfl, (ft_cmp (o_eqX hr.units) g_eqX (fe_tup (fa_cons (fe_ix (fe_lv 1) fe_int) (fa_cons (fe_ix (fe_lv 1) fe_int) (fa_cons (fe_ix (fe_lv 1) fe_int) fa_nil)))) (fe_tup (fa_cons (fe_ix (fe_cv 2) fe_int) (fa_cons (fe_ix (fe_cv 2) fe_int) (fa_cons (fe_ix (fe_cv 2) fe_int) fa_nil)))) (nomark _))⟩)) compG_lst) (fos_cons (fo_if rfl (ft_cmp (o_eqX hr.units) g_eqX (fe_lv 14) (fe_lst fa_nil) (nomark _)) (fos_one (fo_app rfl (pe_var (by kernel_rfl) (.inl (by kernel_rfl)) (by kernel_rfl) (by kernel_rfl)) (fe_lv 12))) (fos_one (fo_store rfl (pe_var (by kernel_rfl) (.inl (by kernel_rfl)) (by kernel_rfl) (by kernel_rfl)) (fe_ix (fe_lv 14) fe_int) (fe_op o_addT g_addT (fe_cutT (fe_lv 12) fo_none (fo_some fe_int)) (fe_tup (fa_cons (fe_ix (fe_ix (fe_lv 1) (fe_ix (fe_lv 14) fe_int)) fe_int) (fa_cons (fe_ix (fe_lv 12) fe_int) fa_nil))))))) (fos_one (fo_ifR (ft_cmp (o_neX hr.units) g_neX (fe_callH (k' := 8) 2 ["jar", "note"] F_put h_put hr (by decide) (glb (by kernel_rfl)) (fa_cons (fe_lv 1) (fa_cons (fe_lv 12) fa_nil))) (fe_tuple (glb (by kernel_rfl)) m_tuple (fa_cons (fe_lv 13) fa_nil)) (nomark _)) (fos_one (fo_ret fe_bl)) fos_nil))))))) (fss_cons (fs_set 4 sc_law.nd (by kernel_rfl) (.inl (by kernel_rfl)) (fe_ix (fe_lst (fa_cons (fe_neg fe_int) (fa_cons fe_int (fa_cons fe_non (fa_cons fe_bl fa_nil))))) (fe_callH (k' := 8) 2 ["_law_script", "_law_k", "_law_many_here"] F__law_drawn h__law_drawn hr (by decide) (glb (by kernel_rfl)) (fa_cons (fe_lv 0) (fa_cons fe_int (fa_cons fe_int fa_nil)))))) (fss_cons (fs_if (ft_cmp (o_neX hr.units) g_neX (fe_callH (k' := 8) 8 ["_law_way", "_law_jar_here", "_law_thing"] F__law_told h__law_told hr (by decide) (glb (by kernel_rfl)) (fa_cons fe_int (fa_cons (fe_lv 1) (fa_cons (fe_lv 4) fa_nil)))) (fe_tup (fa_cons fe_str (fa_cons fe_int fa_nil))) (nomark _)) (fss_one (fs_ret fe_bl)) fss_nil) (fss_one (fs_ret (fe_cmp (o_eqX hr.units) g_eqX (fe_callH (k' := 8) 8 ["_law_way", "_law_jar_here", "_law_thing"] F__law_told h__law_told hr (by decide) (glb (by kernel_rfl)) (fa_cons fe_int (fa_cons (fe_lv 1) (fa_cons (fe_ix (fe_lst (fa_cons fe_str (fa_cons fe_non (fa_cons fe_str (fa_cons fe_int fa_nil))))) (fe_callH (k' := 8) 2 ["_law_script", "_law_k", "_law_many_here"] F__law_drawn h__law_drawn hr (by decide) (glb (by kernel_rfl)) (fa_cons (fe_lv 0) (fa_cons fe_int (fa_cons fe_int fa_nil))))) fa_nil)))) (fe_tup (fa_cons fe_str (fa_cons fe_int fa_nil))) (nomark _))))))))))))))))))
noncomputable abbrev nsM (K : PySem.W.Frag) (x : Str) : Option (Option Value) := PySem.W.nsIn K mainGlobals x
structure Af (K : PySem.W.Frag) (x : Str) (st : Stmt) (f : Addr) : Prop where
  a : nsM K x = some (some (.ref f))
  F : ∃ fd, Fun K x x st f fd
  k : PySem.W.keepIn K (.ref f) = true
theorem af {K : PySem.W.Frag} {x : Str} {st : Stmt} (f : Addr) (m : String) (t c : Nat) (a : nsM K x = some (some (.ref f))) (l : K.lookup f = some ⟨Value.type "function", none, .func (PySem.W.fnOf x x (defArgs st) (defBody st) (defScope st) .none .none .none (kS m t) none (kR c) .none), #[]⟩) (cc : PySem.W.codeIn K (kR c) x = true) (k : PySem.W.keepIn K (.ref f) = true) : Af K x st f := ⟨a, ⟨_, fun_mk l cc k⟩, k⟩
theorem MG {K : PySem.W.Frag} {h : Heap} {mg : Str → Option Value} {x : Str} {v : Value} (X : K.In h) (G : h.Ns mainGlobals mg) (e : nsM K x = some (some v)) : mg x = some v := PySem.W.mg_of X G e
theorem MN {K : PySem.W.Frag} {h : Heap} {mg : Str → Option Value} {x : Str} (X : K.In h) (G : h.Ns mainGlobals mg) (e : nsM K x = some none) : mg x = none := PySem.W.mg_none_of X G e
theorem all_mk {l : PySem.W.OpenLaw} {w : World} {K : PySem.W.Frag} {h : Heap} {mg : Str → Option Value} {fa : Addr} (X : K.In h) (G : h.Ns mainGlobals mg) (hfa : mg "law" = some (.ref fa))
    {f1 f2 f3 f4 f5 f6 f7 f8 f9 f10 f11 f12 f13 f14 f15 f16 f17 f18 f19 f20 f21 f22 f23 f24 f25 f26 f27 f28 f29 f30 f31 f32 f33 f34 f35 : Addr}
    {f36 : Addr} {od36 an36 : Option Addr} {sl36 : Array (Option Value)} {oc36 kV36 dc36 pm36 cd36 ct36 : Value}
    {C0 C1 C2 C3 C4 C5 C6 CJ : Addr}
    {tk1 tk2 tk3 tk4 tk5 tk6 tk7 tk8 tk9 tk10 tk11 tk12 tk13 tk14 tk15 tk16 tk17 tk18 tk19 tk20 tk21 tk22 tk23 : Tok}
    (A1 : Af K "_law_cell" s__law_cell f1)
    (A2 : Af K "_law_drawn" s__law_drawn f2)
    (A3 : Af K "is_whole_number" s_is_whole_number f3)
    (A4 : Af K "is_moment" s_is_moment f4)
    (A5 : Af K "is_moment_or_none" s_is_moment_or_none f5)
    (A6 : Af K "is_text_of" s_is_text_of f6)
    (A7 : Af K "is_label" s_is_label f7)
    (A8 : Af K "is_name" s_is_name f8)
    (A9 : Af K "is_note_name" s_is_note_name f9)
    (A10 : Af K "is_path" s_is_path f10)
    (A11 : Af K "is_reach" s_is_reach f11)
    (A12 : Af K "is_tuple_of" s_is_tuple_of f12)
    (A13 : Af K "is_worth" s_is_worth f13)
    (A14 : Af K "is_note" s_is_note f14)
    (A15 : Af K "_law_is_jar" s__law_is_jar f15)
    (A16 : Af K "_law_name" s__law_name f16)
    (A17 : Af K "_law_path" s__law_path f17)
    (A18 : Af K "_law_jar" s__law_jar f18)
    (A19 : Af K "_law_many" s__law_many f19)
    (A20 : Af K "_law_refused" s__law_refused f20)
    (A21 : Af K "lies_within" s_lies_within f21)
    (A22 : Af K "key" s_key f22)
    (A23 : Af K "has_no_key_twice" s_has_no_key_twice f23)
    (A24 : Af K "is_by_made" s_is_by_made f24)
    (A25 : Af K "is_jar" s_is_jar f25)
    (A26 : Af K "need_jar" s_need_jar f26)
    (A27 : Af K "need_name" s_need_name f27)
    (A28 : Af K "forgotten" s_forgotten f28)
    (A29 : Af K "need_moment" s_need_moment f29)
    (A30 : Af K "has_ended" s_has_ended f30)
    (A31 : Af K "without_ended" s_without_ended f31)
    (A32 : Af K "swept" s_swept f32)
    (A33 : Af K "_law_told" s__law_told f33)
    (A34 : Af K "_law_within" s__law_within f34)
    (A35 : Af K "put" s_put f35)
    (a36 : nsM K "law" = some (some (.ref f36))) (l36 : K.lookup f36 = some ⟨oc36, od36, .func (PySem.W.fnOf "law" "law" (defArgs s_law) (defBody s_law) (defScope s_law) .none kV36 dc36 pm36 an36 cd36 ct36), sl36⟩) (c36 : PySem.W.codeIn K cd36 "law" = true) (k36 : PySem.W.keepIn K (.ref f36) = true)
    (z1 : nsM K "ValueError" = some none)
    (z2 : nsM K "all" = some none)
    (z3 : nsM K "bool" = some none)
    (z4 : nsM K "enumerate" = some none)
    (z5 : nsM K "int" = some none)
    (z6 : nsM K "isinstance" = some none)
    (z7 : nsM K "len" = some none)
    (z8 : nsM K "list" = some none)
    (z9 : nsM K "max" = some none)
    (z10 : nsM K "range" = some none)
    (z11 : nsM K "set" = some none)
    (z12 : nsM K "sorted" = some none)
    (z13 : nsM K "str" = some none)
    (z14 : nsM K "tuple" = some none)
    (g1 : nsM K "FIGURES" = some (some (.str (Str.ofString "0123456789") tk1)))
    (g2 : nsM K "LABEL_SIGNS" = some (some (.str (Str.ofString "abcdefghijklmnopqrstuvwxyz0123456789-") tk2)))
    (g3 : nsM K "LAST_MOMENT" = some (some (.int 9999 tk3)))
    (g4 : nsM K "LONGEST_LABEL" = some (some (.int 8 tk4)))
    (g5 : nsM K "LONGEST_NOTE_NAME" = some (some (.int 10 tk5)))
    (g6 : nsM K "LONGEST_PATH" = some (some (.int 20 tk6)))
    (g7 : nsM K "LONGEST_WORTH" = some (some (.int 12 tk7)))
    (g8 : nsM K "MOST_LABELS" = some (some (.int 5 tk8)))
    (g9 : nsM K "MOST_NOTES" = some (some (.int 20 tk9)))
    (g10 : nsM K "NOTE_ENDS" = some (some (.int 5 tk10)))
    (g11 : nsM K "NOTE_EXACT" = some (some (.int 3 tk11)))
    (g12 : nsM K "NOTE_HOUSE" = some (some (.int 2 tk12)))
    (g13 : nsM K "NOTE_MADE" = some (some (.int 8 tk13)))
    (g14 : nsM K "NOTE_NAME" = some (some (.int 0 tk14)))
    (g15 : nsM K "NOTE_NAME_SIGNS" = some (some (.str (Str.ofString "abcdefghijklmnopqrstuvwxyzABCDEFGHIJKLMNOPQRSTUVWXYZ0123456789-_") tk15)))
    (g16 : nsM K "NOTE_PARTS" = some (some (.int 10 tk16)))
    (g17 : nsM K "NOTE_PATH" = some (some (.int 4 tk17)))
    (g18 : nsM K "NOTE_REACH" = some (some (.int 7 tk18)))
    (g19 : nsM K "NOTE_SAFE" = some (some (.int 6 tk19)))
    (g20 : nsM K "NOTE_USED" = some (some (.int 9 tk20)))
    (g21 : nsM K "NOTE_WORTH" = some (some (.int 1 tk21)))
    (g22 : nsM K "NO_WORTH_SIGNS" = some (some (.str (Str.ofString ";,=") tk22)))
    (g23 : nsM K "PATH_SIGNS" = some (some (.str (Str.ofString "abcdefghijklmnopqrstuvwxyz0123456789-_./") tk23)))
    (n0 : nsM K "NoName" = some (some (.ref C0)))
    (n1 : nsM K "NoTable" = some (some (.ref C1)))
    (n2 : nsM K "NoPath" = some (some (.ref C2)))
    (n3 : nsM K "NoAsk" = some (some (.ref C3)))
    (n4 : nsM K "NoNote" = some (some (.ref C4)))
    (n5 : nsM K "NoJar" = some (some (.ref C5)))
    (n6 : nsM K "NoNumber" = some (some (.ref C6)))
    (nJ : nsM K "JarError" = some (some (.ref CJ)))
    (xb : clsB K [C0, C1, C2, C3, C4, C5, C6] CJ = true) :
    ∃ fd : FuncData, (∀ (s : Shared) (v : Value), BindsTo s fd ⟨[v], []⟩ [("_law_script", v)]) ∧ ∀ base : Heap, K.In base → base.Ns mainGlobals mg → FnOk l.prog w K mg base CX0 9 fa fd ["_law_script"] (spF K F_law 1) := by
  have e := hfa.symm.trans (MG X G a36)
  cases e
  obtain ⟨a1, ⟨_, F1⟩, k1⟩ := A1
  obtain ⟨a2, ⟨_, F2⟩, k2⟩ := A2
  obtain ⟨a3, ⟨_, F3⟩, k3⟩ := A3
  obtain ⟨a4, ⟨_, F4⟩, k4⟩ := A4
  obtain ⟨a5, ⟨_, F5⟩, k5⟩ := A5
  obtain ⟨a6, ⟨_, F6⟩, k6⟩ := A6
  obtain ⟨a7, ⟨_, F7⟩, k7⟩ := A7
  obtain ⟨a8, ⟨_, F8⟩, k8⟩ := A8
  obtain ⟨a9, ⟨_, F9⟩, k9⟩ := A9
  obtain ⟨a10, ⟨_, F10⟩, k10⟩ := A10
  obtain ⟨a11, ⟨_, F11⟩, k11⟩ := A11
  obtain ⟨a12, ⟨_, F12⟩, k12⟩ := A12
  obtain ⟨a13, ⟨_, F13⟩, k13⟩ := A13
  obtain ⟨a14, ⟨_, F14⟩, k14⟩ := A14
  obtain ⟨a15, ⟨_, F15⟩, k15⟩ := A15
  obtain ⟨a16, ⟨_, F16⟩, k16⟩ := A16
  obtain ⟨a17, ⟨_, F17⟩, k17⟩ := A17
  obtain ⟨a18, ⟨_, F18⟩, k18⟩ := A18
  obtain ⟨a19, ⟨_, F19⟩, k19⟩ := A19
  obtain ⟨a20, ⟨_, F20⟩, k20⟩ := A20
  obtain ⟨a21, ⟨_, F21⟩, k21⟩ := A21
  obtain ⟨a22, ⟨_, F22⟩, k22⟩ := A22
  obtain ⟨a23, ⟨_, F23⟩, k23⟩ := A23
  obtain ⟨a24, ⟨_, F24⟩, k24⟩ := A24
  obtain ⟨a25, ⟨_, F25⟩, k25⟩ := A25
  obtain ⟨a26, ⟨_, F26⟩, k26⟩ := A26
  obtain ⟨a27, ⟨_, F27⟩, k27⟩ := A27
  obtain ⟨a28, ⟨_, F28⟩, k28⟩ := A28
  obtain ⟨a29, ⟨_, F29⟩, k29⟩ := A29
  obtain ⟨a30, ⟨_, F30⟩, k30⟩ := A30
  obtain ⟨a31, ⟨_, F31⟩, k31⟩ := A31
  obtain ⟨a32, ⟨_, F32⟩, k32⟩ := A32
  obtain ⟨a33, ⟨_, F33⟩, k33⟩ := A33
  obtain ⟨a34, ⟨_, F34⟩, k34⟩ := A34
  obtain ⟨a35, ⟨_, F35⟩, k35⟩ := A35
  have F36 := fun_mk (st := s_law) l36 c36 k36
  have m_ValueError := MN X G z1
  have m_all := MN X G z2
  have m_bool := MN X G z3
  have m_enumerate := MN X G z4
  have m_int := MN X G z5
  have m_isinstance := MN X G z6
  have m_len := MN X G z7
  have m_list := MN X G z8
  have m_max := MN X G z9
  have m_range := MN X G z10
  have m_set := MN X G z11
  have m_sorted := MN X G z12
  have m_str := MN X G z13
  have m_tuple := MN X G z14
  have m_FIGURES := MG X G g1
  have m_LABEL_SIGNS := MG X G g2
  have m_LAST_MOMENT := MG X G g3
  have m_LONGEST_LABEL := MG X G g4
  have m_LONGEST_NOTE_NAME := MG X G g5
  have m_LONGEST_PATH := MG X G g6
  have m_LONGEST_WORTH := MG X G g7
  have m_MOST_LABELS := MG X G g8
  have m_MOST_NOTES := MG X G g9
  have m_NOTE_ENDS := MG X G g10
  have m_NOTE_EXACT := MG X G g11
  have m_NOTE_HOUSE := MG X G g12
  have m_NOTE_MADE := MG X G g13
  have m_NOTE_NAME := MG X G g14
  have m_NOTE_NAME_SIGNS := MG X G g15
  have m_NOTE_PARTS := MG X G g16
  have m_NOTE_PATH := MG X G g17
  have m_NOTE_REACH := MG X G g18
  have m_NOTE_SAFE := MG X G g19
  have m_NOTE_USED := MG X G g20
  have m_NOTE_WORTH := MG X G g21
  have m_NO_WORTH_SIGNS := MG X G g22
  have m_PATH_SIGNS := MG X G g23
  have xa : XAll K 7 (fun c => [C0, C1, C2, C3, C4, C5, C6].getD c 0) CJ := xall_of rfl (fun c hc => match c, hc with | 0, _ => n0 | 1, _ => n1 | 2, _ => n2 | 3, _ => n3 | 4, _ => n4 | 5, _ => n5 | 6, _ => n6) xb
  have m_NoName := MG X G n0
  have m_NoTable := MG X G n1
  have m_NoPath := MG X G n2
  have m_NoAsk := MG X G n3
  have m_NoNote := MG X G n4
  have m_NoJar := MG X G n5
  have m_NoNumber := MG X G n6
  have m_JarError := MG X G nJ
  refine ⟨PySem.W.fnOf "law" "law" (defArgs s_law) (defBody s_law) (defScope s_law) .none kV36 dc36 pm36 an36 cd36 ct36, fun s v => .of_eq rfl, fun base _ _ => ?_⟩
  have h__law_cell : Has l.prog w K mg base "_law_cell" 1 ["_law_script", "_law_k"] F__law_cell := ⟨_, _, fn__law_cell F1 m_len, MG X G a1, k1, bd__law_cell F1⟩
  have h__law_drawn : Has l.prog w K mg base "_law_drawn" 2 ["_law_script", "_law_k", "_law_many_here"] F__law_drawn := ⟨_, _, fn__law_drawn F2 h__law_cell, MG X G a2, k2, bd__law_drawn F2⟩
  have h_is_whole_number : Has l.prog w K mg base "is_whole_number" 1 ["thing", "least", "most"] F_is_whole_number := ⟨_, _, fn_is_whole_number F3 m_bool m_int m_isinstance, MG X G a3, k3, bd_is_whole_number F3⟩
  have h_is_moment : Has l.prog w K mg base "is_moment" 2 ["thing"] F_is_moment := ⟨_, _, fn_is_moment F4 h_is_whole_number m_LAST_MOMENT, MG X G a4, k4, bd_is_moment F4⟩
  have h_is_moment_or_none : Has l.prog w K mg base "is_moment_or_none" 3 ["thing"] F_is_moment_or_none := ⟨_, _, fn_is_moment_or_none F5 h_is_moment, MG X G a5, k5, bd_is_moment_or_none F5⟩
  have h_is_text_of : Has l.prog w K mg base "is_text_of" 1 ["thing", "signs", "least", "most"] F_is_text_of := ⟨_, _, fn_is_text_of F6 m_all m_isinstance m_len m_str, MG X G a6, k6, bd_is_text_of F6⟩
  have h_is_label : Has l.prog w K mg base "is_label" 2 ["thing"] F_is_label := ⟨_, _, fn_is_label F7 h_is_text_of m_LABEL_SIGNS m_LONGEST_LABEL, MG X G a7, k7, bd_is_label F7⟩
  have h_is_name : Has l.prog w K mg base "is_name" 3 ["thing"] F_is_name := ⟨_, _, fn_is_name F8 h_is_label h_is_text_of m_all m_isinstance m_len m_str m_FIGURES m_LONGEST_LABEL m_MOST_LABELS, MG X G a8, k8, bd_is_name F8⟩
  have h_is_note_name : Has l.prog w K mg base "is_note_name" 2 ["thing"] F_is_note_name := ⟨_, _, fn_is_note_name F9 h_is_text_of m_LONGEST_NOTE_NAME m_NOTE_NAME_SIGNS, MG X G a9, k9, bd_is_note_name F9⟩
  have h_is_path : Has l.prog w K mg base "is_path" 2 ["thing"] F_is_path := ⟨_, _, fn_is_path F10 h_is_text_of m_LONGEST_PATH m_PATH_SIGNS, MG X G a10, k10, bd_is_path F10⟩
  have h_is_reach : Has l.prog w K mg base "is_reach" 1 ["thing"] F_is_reach := ⟨_, _, fn_is_reach F11, MG X G a11, k11, bd_is_reach F11⟩
  have h_is_tuple_of : Has l.prog w K mg base "is_tuple_of" 1 ["thing", "parts"] F_is_tuple_of := ⟨_, _, fn_is_tuple_of F12 m_isinstance m_len m_tuple, MG X G a12, k12, bd_is_tuple_of F12⟩
  have h_is_worth : Has l.prog w K mg base "is_worth" 1 ["thing"] F_is_worth := ⟨_, _, fn_is_worth F13 m_all m_isinstance m_len m_str m_LONGEST_WORTH m_NO_WORTH_SIGNS, MG X G a13, k13, bd_is_worth F13⟩
  have h_is_note : Has l.prog w K mg base "is_note" 4 ["thing"] F_is_note := ⟨_, _, fn_is_note F14 h_is_moment h_is_moment_or_none h_is_name h_is_note_name h_is_path h_is_reach h_is_tuple_of h_is_worth m_all m_bool m_isinstance m_NOTE_ENDS m_NOTE_EXACT m_NOTE_HOUSE m_NOTE_MADE m_NOTE_NAME m_NOTE_PARTS m_NOTE_PATH m_NOTE_REACH m_NOTE_SAFE m_NOTE_USED m_NOTE_WORTH, MG X G a14, k14, bd_is_note F14⟩
  have h__law_is_jar : Has l.prog w K mg base "_law_is_jar" 5 ["_law_thing"] F__law_is_jar := ⟨_, _, fn__law_is_jar F15 h_is_note m_isinstance m_len m_set m_sorted m_tuple, MG X G a15, k15, bd__law_is_jar F15⟩
  have h__law_name : Has l.prog w K mg base "_law_name" 3 ["_law_script", "_law_at"] F__law_name := ⟨_, _, fn__law_name F16 h__law_drawn m_len, MG X G a16, k16, bd__law_name F16⟩
  have h__law_path : Has l.prog w K mg base "_law_path" 3 ["_law_script", "_law_at"] F__law_path := ⟨_, _, fn__law_path F17 h__law_drawn m_len, MG X G a17, k17, bd__law_path F17⟩
  have h__law_jar : Has l.prog w K mg base "_law_jar" 4 ["_law_script", "_law_at", "_law_many_here"] F__law_jar := ⟨_, _, fn__law_jar F18 h__law_drawn h__law_name h__law_path m_range m_tuple, MG X G a18, k18, bd__law_jar F18⟩
  have h__law_many : Has l.prog w K mg base "_law_many" 1 ["_law_many_here"] F__law_many := ⟨_, _, fn__law_many F19 m_range m_str m_tuple, MG X G a19, k19, bd__law_many F19⟩
  have hm__law_refused : HasM l.prog w K mg base "_law_refused" 1 ["_law_e"] FM__law_refused := ⟨_, _, fm__law_refused F20 m_ValueError m_isinstance xa m_NoAsk m_NoJar m_NoName m_NoNote m_NoNumber m_NoPath m_NoTable, MG X G a20, k20, bd__law_refused F20⟩
  have h_lies_within : Has l.prog w K mg base "lies_within" 1 ["one", "other"] F_lies_within := ⟨_, _, fn_lies_within F21, MG X G a21, k21, bd_lies_within F21⟩
  have h_key : Has l.prog w K mg base "key" 1 ["note"] F_key := ⟨_, _, fn_key F22 m_NOTE_HOUSE m_NOTE_NAME m_NOTE_PATH, MG X G a22, k22, bd_key F22⟩
  have h_has_no_key_twice : Has l.prog w K mg base "has_no_key_twice" 2 ["notes"] F_has_no_key_twice := ⟨_, _, fn_has_no_key_twice F23 h_key m_len m_set, MG X G a23, k23, bd_has_no_key_twice F23⟩
  have h_is_by_made : Has l.prog w K mg base "is_by_made" 1 ["notes"] F_is_by_made := ⟨_, _, fn_is_by_made F24 m_all m_len m_range m_NOTE_MADE, MG X G a24, k24, bd_is_by_made F24⟩
  have h_is_jar : Has l.prog w K mg base "is_jar" 5 ["thing"] F_is_jar := ⟨_, _, fn_is_jar F25 h_has_no_key_twice h_is_by_made h_is_note m_all m_isinstance m_len m_tuple m_MOST_NOTES, MG X G a25, k25, bd_is_jar F25⟩
  have hx_need_jar : HasE l.prog w K mg base "need_jar" 6 ["thing"] FX_need_jar := ⟨_, _, fx_need_jar F26 h_is_jar xa m_NoJar, MG X G a26, k26, bd_need_jar F26⟩
  have hx_need_name : HasE l.prog w K mg base "need_name" 4 ["thing"] FX_need_name := ⟨_, _, fx_need_name F27 h_is_name xa m_NoName, MG X G a27, k27, bd_need_name F27⟩
  have hx_forgotten : HasE l.prog w K mg base "forgotten" 7 ["jar", "house"] FX_forgotten := ⟨_, _, fx_forgotten F28 h_lies_within hx_need_jar hx_need_name m_tuple m_NOTE_HOUSE, MG X G a28, k28, bd_forgotten F28⟩
  have hx_need_moment : HasE l.prog w K mg base "need_moment" 3 ["thing"] FX_need_moment := ⟨_, _, fx_need_moment F29 h_is_moment xa m_NoNumber, MG X G a29, k29, bd_need_moment F29⟩
  have h_has_ended : Has l.prog w K mg base "has_ended" 1 ["note", "now"] F_has_ended := ⟨_, _, fn_has_ended F30 m_NOTE_ENDS, MG X G a30, k30, bd_has_ended F30⟩
  have h_without_ended : Has l.prog w K mg base "without_ended" 2 ["notes", "now"] F_without_ended := ⟨_, _, fn_without_ended F31 h_has_ended m_tuple, MG X G a31, k31, bd_without_ended F31⟩
  have hx_swept : HasE l.prog w K mg base "swept" 7 ["jar", "now"] FX_swept := ⟨_, _, fx_swept F32 hx_need_jar hx_need_moment h_without_ended, MG X G a32, k32, bd_swept F32⟩
  have h__law_told : Has l.prog w K mg base "_law_told" 8 ["_law_way", "_law_jar_here", "_law_thing"] F__law_told := ⟨_, _, fn__law_told F33 hm__law_refused hx_forgotten hx_swept xa m_JarError, MG X G a33, k33, bd__law_told F33⟩
  have h__law_within : Has l.prog w K mg base "_law_within" 1 ["_law_one", "_law_other"] F__law_within := ⟨_, _, fn__law_within F34, MG X G a34, k34, bd__law_within F34⟩
  have h_put : Has l.prog w K mg base "put" 2 ["jar", "note"] F_put := ⟨_, _, fn_put F35 h_key m_tuple m_NOTE_MADE, MG X G a35, k35, bd_put F35⟩
  exact fn_law F36 h__law_drawn h__law_is_jar h__law_jar h__law_many h__law_name h__law_told h__law_within h_is_jar h_put m_bool m_enumerate m_isinstance m_len m_list m_max m_range m_tuple
end G
set_option maxHeartbeats 4000000
namespace FD
open PySem PySem.Spec
open PySem.StrLaws PySem.Builtin PySem.Builtin.Str
def J (S : List Nat) : List Nat → List (List Nat) → List Nat
  | p, [] => p
  | p, q :: r => p ++ (S ++ J S q r)
end FD
namespace FD
open PySem PySem.Spec PyProof.Rows L2
theorem mapF_all {elt : FnE} {cap : Ev} {α : Type} (en : α → Dv) (f : α → Dv) : ∀ {l : List α}, (∀ a ∈ l, elt (cap.set 0 (some (en a))) = some (.ok (f a))) → mapF none elt cap (l.map en) = some (l.map f)
  | [], _ => rfl
  | a :: l, h => by
    have ih := mapF_all (elt := elt) (cap := cap) en f (l := l) fun b hb => h b (List.mem_cons_of_mem _ hb)
    rw [List.map_cons, List.map_cons]
    unfold mapF
    dsimp only
    rw [h a List.mem_cons_self, ih]
theorem mapF_some {tst : FnB} {elt : FnE} {cap : Ev} {α : Type} (en : α → Dv) (p : α → Bool) (f : α → Dv) : ∀ {l : List α}, (∀ a ∈ l, tst (cap.set 0 (some (en a))) = some (.ok (p a)) ∧ elt (cap.set 0 (some (en a))) = some (.ok (f a))) → mapF (some tst) elt cap (l.map en) = some ((l.filter p).map f)
  | [], _ => rfl
  | a :: l, h => by
    have ih := mapF_some (tst := tst) (elt := elt) (cap := cap) en p f (l := l) fun b hb => h b (List.mem_cons_of_mem _ hb)
    obtain ⟨h1, h2⟩ := h a List.mem_cons_self
    rw [List.map_cons]
    unfold mapF
    dsimp only
    rw [h1, ih]
    cases q : p a with
    | true => dsimp only; rw [h2, List.filter_cons_of_pos q]; rfl
    | false => dsimp only; rw [List.filter_cons_of_neg (by rw [q]; decide)]
theorem mapG_all {elt : FnE} {cap : Ev} {α : Type} (en : α → Dv) (f : α → Dv) : ∀ {l : List α}, (∀ a ∈ l, elt (cap.set 0 (some (en a))) = some (.ok (f a))) → mapG (gN 0) none elt cap (l.map en) = some (l.map f)
  | [], _ => rfl
  | a :: l, h => by
    have ih := mapG_all (elt := elt) (cap := cap) en f (l := l) fun b hb => h b (List.mem_cons_of_mem _ hb)
    rw [List.map_cons, List.map_cons]
    unfold mapG
    show (match elt (cap.set 0 (some (en a))) with | some (.ok y) => _ | _ => _) = _
    rw [h a List.mem_cons_self, ih]
theorem mapG_some {tst : FnB} {elt : FnE} {cap : Ev} {α : Type} (en : α → Dv) (p : α → Bool) (f : α → Dv) : ∀ {l : List α}, (∀ a ∈ l, tst (cap.set 0 (some (en a))) = some (.ok (p a)) ∧ elt (cap.set 0 (some (en a))) = some (.ok (f a))) → mapG (gN 0) (some tst) elt cap (l.map en) = some ((l.filter p).map f)
  | [], _ => rfl
  | a :: l, h => by
    have ih := mapG_some (tst := tst) (elt := elt) (cap := cap) en p f (l := l) fun b hb => h b (List.mem_cons_of_mem _ hb)
    obtain ⟨h1, h2⟩ := h a List.mem_cons_self
    rw [List.map_cons]
    unfold mapG
    show (match tst (cap.set 0 (some (en a))) with | some (.ok true) => _ | some (.ok false) => _ | _ => _) = _
    rw [h1, ih]
    cases q : p a with
    | true => dsimp only; rw [h2, List.filter_cons_of_pos q]; rfl
    | false => dsimp only; rw [List.filter_cons_of_neg (by rw [q]; decide)]
theorem comp_all {cs : List (Str × Nat)} {src : FnA} {elt : FnE} {ρ : Ev} {α : Type} (en f : α → Dv) {l : List α} (hs : src ρ = some (.ok (l.map en))) (hl : l.length ≤ 100000) (h : ∀ a ∈ l, elt ((capE cs ρ).set 0 (some (en a))) = some (.ok (f a))) : fComp cs src none elt ρ = some (.ok (.lst (l.map f))) := by
  unfold fComp
  rw [hs]
  show (match mapF none elt (capE cs ρ) (l.map en) with | some ys => _ | none => _) = _
  rw [mapF_all en f h]
  dsimp only
  rw [if_pos ⟨by simpa using hl, by simpa using hl⟩]
theorem comp_some {cs : List (Str × Nat)} {src : FnA} {tst : FnB} {elt : FnE} {ρ : Ev} {α : Type} (en : α → Dv) (p : α → Bool) (f : α → Dv) {l : List α} (hs : src ρ = some (.ok (l.map en))) (hl : l.length ≤ 100000) (h : ∀ a ∈ l, tst ((capE cs ρ).set 0 (some (en a))) = some (.ok (p a)) ∧ elt ((capE cs ρ).set 0 (some (en a))) = some (.ok (f a))) :
    fComp cs src (some tst) elt ρ = some (.ok (.lst ((l.filter p).map f))) := by
  unfold fComp
  rw [hs]
  show (match mapF (some tst) elt (capE cs ρ) (l.map en) with | some ys => _ | none => _) = _
  rw [mapF_some en p f h]
  dsimp only
  have := List.length_filter_le p l
  rw [if_pos ⟨by simp; omega, by simpa using hl⟩]
theorem compG_all {cs : List (Str × Nat)} {src : FnA} {elt : FnE} {ρ : Ev} {α : Type} (en f : α → Dv) {l : List α} (hs : src ρ = some (.ok (l.map en))) (hl : l.length ≤ 100000) (h : ∀ a ∈ l, elt ((capG 1 cs ρ).set 0 (some (en a))) = some (.ok (f a))) : fCompG 1 cs src (gN 0) none elt ρ = some (.ok (.lst (l.map f))) := by
  unfold fCompG
  rw [hs]
  show (match mapG (gN 0) none elt (capG 1 cs ρ) (l.map en) with | some ys => _ | none => _) = _
  rw [mapG_all en f h]
  dsimp only
  rw [if_pos ⟨by simpa using hl, by simpa using hl⟩]
theorem compG_some {cs : List (Str × Nat)} {src : FnA} {tst : FnB} {elt : FnE} {ρ : Ev} {α : Type} (en : α → Dv) (p : α → Bool) (f : α → Dv) {l : List α} (hs : src ρ = some (.ok (l.map en))) (hl : l.length ≤ 100000) (h : ∀ a ∈ l, tst ((capG 1 cs ρ).set 0 (some (en a))) = some (.ok (p a)) ∧ elt ((capG 1 cs ρ).set 0 (some (en a))) = some (.ok (f a))) :
    fCompG 1 cs src (gN 0) (some tst) elt ρ = some (.ok (.lst ((l.filter p).map f))) := by
  unfold fCompG
  rw [hs]
  show (match mapG (gN 0) (some tst) elt (capG 1 cs ρ) (l.map en) with | some ys => _ | none => _) = _
  rw [mapG_some en p f h]
  dsimp only
  have := List.length_filter_le p l
  rw [if_pos ⟨by simp; omega, by simpa using hl⟩]
theorem rng2_of {i j : Int} (h : -(2 ^ 62) ≤ i ∧ i < 2 ^ 62 ∧ -(2 ^ 62) ≤ j ∧ j < 2 ^ 62) : rng2 [.int i, .int j] = some (.ok (rng i (j - i).toNat)) := by rw [rng2, if_pos h]
theorem rng1_of {j : Int} (h : -(2 ^ 62) ≤ j ∧ j < 2 ^ 62) : rng1 [.int j] = some (.ok (rng 0 j.toNat)) := by rw [rng1, if_pos h]
theorem small62 {n : Nat} (h : n ≤ 1000) : -(2 ^ 62) ≤ (1 : Int) ∧ (1 : Int) < 2 ^ 62 ∧ -(2 ^ 62) ≤ (n : Int) ∧ (n : Int) < 2 ^ 62 := by omega
theorem rng2_n {n : Nat} (h : n ≤ 1000) : rng2 [.int 1, .int (n : Int)] = some (.ok (rng 1 ((n : Int) - 1).toNat)) := rng2_of (small62 h)
theorem rng1_n {n : Nat} (h : n ≤ 1000) : rng1 [.int (n : Int)] = some (.ok (rng 0 n)) := by
  rw [rng1_of (by omega)]; rfl
theorem bools_map {α : Type} (p : α → Bool) : ∀ l : List α, bools (l.map fun a => Dv.bl (p a)) = some (l.map p)
  | [] => rfl
  | a :: l => by
    show (match bools (l.map fun a => Dv.bl (p a)) with | some bs => some (p a :: bs) | none => none) = _
    rw [bools_map p l]
    rfl
mutual
def pln : Dv → Bool
  | .exn _ => false
  | .tup ds => plns ds
  | .lst ds => plns ds
  | _ => true
def plns : List Dv → Bool
  | [] => true
  | d :: ds => pln d && plns ds
end
mutual
theorem eqv_refl : ∀ d : Dv, pln d = true → PyData.eqv (toPy d) (toPy d) = true
  | .non, _ => by simp [toPy, PyData.eqv]
  | .bl b, _ => by simp [toPy, PyData.eqv]
  | .int b, _ => by simp [toPy, PyData.eqv]
  | .str b, _ => by simp [toPy, PyData.eqv]
  | .tup ds, h => by simp only [toPy, PyData.eqv]; exact eqvs_refl ds (by simpa [pln] using h)
  | .lst ds, h => by simp only [toPy, PyData.eqv]; exact eqvs_refl ds (by simpa [pln] using h)
  | .scr ns, _ => by
    simp only [toPy, PyData.eqv]
    induction ns with
    | nil => simp [PyData.eqvAll]
    | cons n ns ih => simp [PyData.eqvAll, PyData.eqv]; exact ih rfl
  | .exn _, h => by simp [pln] at h
theorem eqvs_refl : ∀ ds : List Dv, plns ds = true → PyData.eqvAll (toPys ds) (toPys ds) = true
  | [], _ => by simp [toPys, PyData.eqvAll]
  | d :: ds, h => by
    have h' : pln d = true ∧ plns ds = true := by simpa [plns] using h
    simp only [toPys, PyData.eqvAll, Bool.and_eq_true]
    exact ⟨eqv_refl d h'.1, eqvs_refl ds h'.2⟩
end
theorem ne_self {d : Dv} (h1 : okP d = true) (h2 : pln d = true) : neX d d = some (.ok (.bl false)) := by
  unfold neX
  split
  · rename_i b hb
    have : b = true := by
      cases d <;> simp [eqS] at hb
      · exact hb
      · exact hb
      · exact hb
      · rw [← hb]; unfold seq; simp
    rw [this]; rfl
  · rw [h1, eqv_refl d h2]; rfl
structure It1 (k : Nat) (d : Dv) : Prop where
  c : PyData.canLay0 (toPy d) = true
  dp : (toPy d).depth ≤ k
  p : pln d = true
theorem its_c {k : Nat} : ∀ {ds : List Dv}, (∀ d ∈ ds, It1 k d) → PyData.canLayAll0 (toPys ds) = true ∧ PyData.depthAll (toPys ds) ≤ k ∧ plns ds = true
  | [], _ => by simp [toPys, PyData.canLayAll0, PyData.depthAll, plns]
  | d :: ds, h => by
    obtain ⟨h1, h2, h3⟩ := its_c (ds := ds) fun d' hd => h d' (List.mem_cons_of_mem _ hd)
    have h0 := h d List.mem_cons_self
    simp only [toPys, PyData.canLayAll0, PyData.depthAll, plns, Bool.and_eq_true]
    exact ⟨⟨h0.c, h1⟩, by have := h0.dp; omega, h0.p, h3⟩
theorem it_tup {k : Nat} {ds : List Dv} (h : ∀ d ∈ ds, It1 k d) : It1 (k + 1) (.tup ds) := by
  obtain ⟨h1, h2, h3⟩ := its_c h
  exact ⟨by simpa [toPy, PyData.canLay0] using h1, by simp [toPy, PyData.depth]; exact h2, by simpa [pln] using h3⟩
theorem it_lst {k : Nat} {ds : List Dv} (h : ∀ d ∈ ds, It1 k d) : It1 (k + 1) (.lst ds) := by
  obtain ⟨h1, h2, h3⟩ := its_c h
  exact ⟨by simpa [toPy, PyData.canLay0] using h1, by simp [toPy, PyData.depth]; exact h2, by simpa [pln] using h3⟩
theorem It1.okP {k : Nat} {d : Dv} (h : It1 k d) (hk : k ≤ 64) : okP d = true := by
  unfold FD.okP SeqAt.shaped
  rw [h.c]
  have := h.dp
  simp
  omega
theorem It1.le {k m : Nat} {d : Dv} (h : It1 k d) (hk : k ≤ m) : It1 m d := ⟨h.c, Nat.le_trans h.dp hk, h.p⟩
theorem it_str {x : Str} (h : PyData.canLay0 (.str x) = true) : It1 0 (.str x) := ⟨h, by simp [toPy, PyData.depth], rfl⟩
theorem it_int {i : Int} : It1 0 (.int i) := ⟨rfl, by simp [toPy, PyData.depth], rfl⟩
theorem it_bl {i : Bool} : It1 0 (.bl i) := ⟨rfl, by simp [toPy, PyData.depth], rfl⟩
theorem it_non : It1 0 .non := ⟨rfl, by simp [toPy, PyData.depth], rfl⟩
end FD
namespace G
open PySem PySem.Spec PyProof.Rows L2 FD
theorem cell_ok (ns : List Int) (hl : ns.length ≤ 63) (k : Int) : ∃ c, F__law_cell [.scr ns, .int k] = some (.ok (.int c)) := by
  cases ns with
  | nil => exact ⟨7 * k, by kernel_rfl⟩
  | cons n r =>
    have h0 : 0 < (n :: r).length := by simp
    have h1 : (0 : Int) < ((n :: r).length : Int) := by omega
    have h2 : ((n :: r).length : Int) < 1073741824 := by omega
    have h3 : 0 ≤ k % ((n :: r).length : Int) := Int.emod_nonneg _ (by omega)
    have h4 : k % ((n :: r).length : Int) < ((n :: r).length : Int) := Int.emod_lt_of_pos _ h1
    have h5 : (k % ((n :: r).length : Int)).toNat < (n :: r).length := by omega
    refine ⟨(n :: r)[(k % ((n :: r).length : Int)).toNat] + 6553 * (k / ((n :: r).length : Int)), ?_⟩
    have hat : atD (n :: r) (k % ((n :: r).length : Int)) = some (n :: r)[(k % ((n :: r).length : Int)).toNat] := by
      unfold atD
      rw [if_pos h3, List.getElem?_eq_getElem h5]
    have hm : modD (.int k) (.int ((n :: r).length : Int)) = some (.ok (.int (k % ((n :: r).length : Int)))) := by
      show (if 0 < ((n :: r).length : Int) then _ else _) = _
      rw [if_pos h1]
    have hd : fdivD (.int k) (.int ((n :: r).length : Int)) = some (.ok (.int (k / ((n :: r).length : Int)))) := by
      show (if 0 < ((n :: r).length : Int) ∧ ((n :: r).length : Int) < 1073741824 then _ else _) = _
      rw [if_pos ⟨h1, h2⟩]
    have hi : ixD (.scr (n :: r)) (.int (k % ((n :: r).length : Int))) = some (.ok (.int (n :: r)[(k % ((n :: r).length : Int)).toNat])) := by
      show (match atD (n :: r) (k % ((n :: r).length : Int)) with | some d => _ | none => _) = _
      rw [hat]
    show (match B__law_cell [some (.scr (n :: r)), some (.int k)] with | some (.nx _) => _ | some (.rt d) => _ | _ => _) = _
    have e : B__law_cell [some (.scr (n :: r)), some (.int k)] = bndS (bnd (bnd (modD (.int k) (.int ((n :: r).length : Int))) fun i => ixD (.scr (n :: r)) i) fun x => bnd (bnd (fdivD (.int k) (.int ((n :: r).length : Int))) fun q => mulD (.int 6553) q) fun y => addD x y) fun d => some (.rt d) := by kernel_rfl
    rw [e, hm, hd]
    show (match bndS (bnd (ixD (.scr (n :: r)) (.int (k % ((n :: r).length : Int)))) fun x => _) _ with | some (.nx _) => _ | some (.rt d) => _ | _ => _) = _
    rw [hi]
    kernel_rfl
def dr1 (c k : Int) : Int := (c % 2147483563 * 69069 + 104723 * (k + 1)) % 2147483563
def dr2 (c : Int) : Int := (c * c + c / 3) % 2147483399
def dr3 (c m : Int) : Int := (c * c + c / 7) % 2147483647 / 11 % m
theorem mul_ok {i j : Int} (h : (-18446744073709551616 < i ∧ i < 18446744073709551616) ∨ (-18446744073709551616 < j ∧ j < 18446744073709551616)) : mulD (.int i) (.int j) = some (.ok (.int (i * j))) := by
  show (if _ then _ else _) = _
  rw [if_pos h]
theorem mod_ok {i j : Int} (h : 0 < j) : modD (.int i) (.int j) = some (.ok (.int (i % j))) := by
  show (if _ then _ else _) = _
  rw [if_pos h]
theorem drawn_ok (ns : List Int) (hl : ns.length ≤ 63) (k m : Int) (hm : 0 < m) : ∃ d : Int, 0 ≤ d ∧ d < m ∧ F__law_drawn [.scr ns, .int k, .int m] = some (.ok (.int d)) := by
  obtain ⟨c, hc⟩ := cell_ok ns hl k
  refine ⟨dr3 (dr2 (dr1 c k)) m, Int.emod_nonneg _ (by omega), Int.emod_lt_of_pos _ hm, ?_⟩
  have b1 : 0 ≤ dr1 c k ∧ dr1 c k < 2147483563 := ⟨Int.emod_nonneg _ (by omega), Int.emod_lt_of_pos _ (by omega)⟩
  have b2 : 0 ≤ dr2 (dr1 c k) ∧ dr2 (dr1 c k) < 2147483399 := ⟨Int.emod_nonneg _ (by omega), Int.emod_lt_of_pos _ (by omega)⟩
  have b0 : 0 ≤ c % 2147483563 ∧ c % 2147483563 < 2147483563 := ⟨Int.emod_nonneg _ (by omega), Int.emod_lt_of_pos _ (by omega)⟩
  show runF 4 B__law_drawn [.scr ns, .int k, .int m] = _
  have s1 : (fCall F__law_cell 2 (aCons (fVar 0) (aCons (fVar 1) aNil))) [some (.scr ns), some (.int k), some (.int m), none] = some (.ok (.int c)) := by
    show (match F__law_cell [.scr ns, .int k] with | some (.ok d) => (some (.ok d) : Option (Rs Dv)) | _ => none) = _
    rw [hc]
  have e1 : (fSet 3 (f2 modD (f2 addD (f2 mulD (f2 modD (fCall F__law_cell 2 (aCons (fVar 0) (aCons (fVar 1) aNil))) (fC (.int 2147483563))) (fC (.int 69069))) (f2 mulD (fC (.int 104723)) (f2 addD (fVar 1) (fC (.int 1))))) (fC (.int 2147483563)))) [some (.scr ns), some (.int k), some (.int m), none] = some (.nx [some (.scr ns), some (.int k), some (.int m), some (.int (dr1 c k))]) := by
    show bndS (bnd (bnd (bnd (bnd ((fCall F__law_cell 2 (aCons (fVar 0) (aCons (fVar 1) aNil))) [some (.scr ns), some (.int k), some (.int m), none]) fun x => modD x (.int 2147483563)) fun x => mulD x (.int 69069)) fun x => bnd (mulD (.int 104723) (.int (k + 1))) fun y => addD x y) fun x => modD x (.int 2147483563)) (fun d => some (.nx [some (.scr ns), some (.int k), some (.int m), some d])) = _
    rw [s1]
    show bndS (bnd (bnd (bnd (modD (.int c) (.int 2147483563)) fun x => mulD x (.int 69069)) fun x => bnd (mulD (.int 104723) (.int (k + 1))) fun y => addD x y) fun x => modD x (.int 2147483563)) _ = _
    rw [mod_ok (by omega), mul_ok (i := 104723) (.inl (by omega))]
    show bndS (bnd (bnd (mulD (.int (c % 2147483563)) (.int 69069)) fun x => addD x (.int (104723 * (k + 1)))) fun x => modD x (.int 2147483563)) _ = _
    rw [mul_ok (.inl (by omega))]
    show bndS (modD (.int (c % 2147483563 * 69069 + 104723 * (k + 1))) (.int 2147483563)) _ = _
    rw [mod_ok (by omega)]
    rfl
  generalize hd1 : dr1 c k = d1 at *
  have e2 : (fSet 3 (f2 modD (f2 addD (f2 mulD (fVar 3) (fVar 3)) (f2 fdivD (fVar 3) (fC (.int 3)))) (fC (.int 2147483399)))) [some (.scr ns), some (.int k), some (.int m), some (.int d1)] = some (.nx [some (.scr ns), some (.int k), some (.int m), some (.int (dr2 d1))]) := by
    show bndS (bnd (bnd (mulD (.int d1) (.int d1)) fun x => addD x (.int (d1 / 3))) fun x => modD x (.int 2147483399)) (fun d => some (.nx [some (.scr ns), some (.int k), some (.int m), some d])) = _
    rw [mul_ok (.inl (by omega))]
    show bndS (modD (.int (d1 * d1 + d1 / 3)) (.int 2147483399)) _ = _
    rw [mod_ok (by omega)]
    rfl
  generalize hd2 : dr2 d1 = d2 at *
  have e3 : (fRet (f2 modD (f2 fdivD (f2 modD (f2 addD (f2 mulD (fVar 3) (fVar 3)) (f2 fdivD (fVar 3) (fC (.int 7)))) (fC (.int 2147483647))) (fC (.int 11))) (fVar 2))) [some (.scr ns), some (.int k), some (.int m), some (.int d2)] = some (.rt (.int (dr3 d2 m))) := by
    show bndS (bnd (bnd (bnd (bnd (mulD (.int d2) (.int d2)) fun x => addD x (.int (d2 / 7))) fun x => modD x (.int 2147483647)) fun x => fdivD x (.int 11)) fun x => modD x (.int m)) (fun d => some (.rt d)) = _
    rw [mul_ok (.inl (by omega))]
    show bndS (bnd (bnd (modD (.int (d2 * d2 + d2 / 7)) (.int 2147483647)) fun x => fdivD x (.int 11)) fun x => modD x (.int m)) _ = _
    rw [mod_ok (by omega)]
    show bndS (modD (.int ((d2 * d2 + d2 / 7) % 2147483647 / 11)) (.int m)) _ = _
    rw [mod_ok hm]
    rfl
  show (match B__law_drawn [some (.scr ns), some (.int k), some (.int m), none] with | some (.nx _) => _ | some (.rt d) => _ | _ => _) = _
  have e : B__law_drawn [some (.scr ns), some (.int k), some (.int m), none] = some (.rt (.int (dr3 d2 m))) := by
    show sq ((fSet 3 _) _) (fun ρ => sq ((fSet 3 _) ρ) _) = _
    rw [e1]
    show sq ((fSet 3 _) [some (.scr ns), some (.int k), some (.int m), some (.int d1)]) _ = _
    rw [e2]
    exact e3
  rw [e]
def menu : List Str := [Str.ofString "a.b", Str.ofString "b", Str.ofString "x.a.b", Str.ofString "y.x.a.b", Str.ofString "c.uk", Str.ofString "uk", Str.ofString "d.c.uk", Str.ofString "e.d.c.uk", Str.ofString "w.ck", Str.ofString "v.w.ck", Str.ofString "ck", Str.ofString "g-1.a.b", Str.ofString "7.b", Str.ofString "p.q"]
theorem name_ok (ns : List Int) (hl : ns.length ≤ 63) (k : Int) : ∃ p ∈ menu, F__law_name [.scr ns, .int k] = some (.ok (.str p)) := by
  obtain ⟨d, h0, h1, hd⟩ := drawn_ok ns hl k 14 (by omega)
  have e : F__law_name [.scr ns, .int k] = (match bndS (bnd (match F__law_drawn [.scr ns, .int k, .int 14] with | some (.ok d) => (some (.ok d) : Option (Rs Dv)) | _ => none) fun i => ixD (.lst (menu.map Dv.str)) i) fun d => some (.rt d) with
    | some (.nx _) => some (.ok .non)
    | some (.rt d) => some (.ok d)
    | _ => none) := by kernel_rfl
  rw [e, hd]
  have hc : d = 0 ∨ d = 1 ∨ d = 2 ∨ d = 3 ∨ d = 4 ∨ d = 5 ∨ d = 6 ∨ d = 7 ∨ d = 8 ∨ d = 9 ∨ d = 10 ∨ d = 11 ∨ d = 12 ∨ d = 13 := by omega
  rcases hc with rfl | rfl | rfl | rfl | rfl | rfl | rfl | rfl | rfl | rfl | rfl | rfl | rfl | rfl
  · exact ⟨Str.ofString "a.b", by simp [menu], by kernel_rfl⟩
  · exact ⟨Str.ofString "b", by simp [menu], by kernel_rfl⟩
  · exact ⟨Str.ofString "x.a.b", by simp [menu], by kernel_rfl⟩
  · exact ⟨Str.ofString "y.x.a.b", by simp [menu], by kernel_rfl⟩
  · exact ⟨Str.ofString "c.uk", by simp [menu], by kernel_rfl⟩
  · exact ⟨Str.ofString "uk", by simp [menu], by kernel_rfl⟩
  · exact ⟨Str.ofString "d.c.uk", by simp [menu], by kernel_rfl⟩
  · exact ⟨Str.ofString "e.d.c.uk", by simp [menu], by kernel_rfl⟩
  · exact ⟨Str.ofString "w.ck", by simp [menu], by kernel_rfl⟩
  · exact ⟨Str.ofString "v.w.ck", by simp [menu], by kernel_rfl⟩
  · exact ⟨Str.ofString "ck", by simp [menu], by kernel_rfl⟩
  · exact ⟨Str.ofString "g-1.a.b", by simp [menu], by kernel_rfl⟩
  · exact ⟨Str.ofString "7.b", by simp [menu], by kernel_rfl⟩
  · exact ⟨Str.ofString "p.q", by simp [menu], by kernel_rfl⟩
def pths : List Str := [Str.ofString "/", Str.ofString "/x", Str.ofString "/x/", Str.ofString "/x/y", Str.ofString "/xy", Str.ofString "/x/y/z.q", Str.ofString "//", Str.ofString "/-_.9", Str.ofString "/x/y/"]
theorem path_ok (ns : List Int) (hl : ns.length ≤ 63) (k : Int) : ∃ p ∈ pths, F__law_path [.scr ns, .int k] = some (.ok (.str p)) := by
  obtain ⟨d, h0, h1, hd⟩ := drawn_ok ns hl k 9 (by omega)
  have e : F__law_path [.scr ns, .int k] = (match bndS (bnd (match F__law_drawn [.scr ns, .int k, .int 9] with | some (.ok d) => (some (.ok d) : Option (Rs Dv)) | _ => none) fun i => ixD (.lst (pths.map Dv.str)) i) fun d => some (.rt d) with
    | some (.nx _) => some (.ok .non)
    | some (.rt d) => some (.ok d)
    | _ => none) := by kernel_rfl
  rw [e, hd]
  have hc : d = 0 ∨ d = 1 ∨ d = 2 ∨ d = 3 ∨ d = 4 ∨ d = 5 ∨ d = 6 ∨ d = 7 ∨ d = 8 := by omega
  rcases hc with rfl | rfl | rfl | rfl | rfl | rfl | rfl | rfl | rfl
  · exact ⟨Str.ofString "/", by simp [pths], by kernel_rfl⟩
  · exact ⟨Str.ofString "/x", by simp [pths], by kernel_rfl⟩
  · exact ⟨Str.ofString "/x/", by simp [pths], by kernel_rfl⟩
  · exact ⟨Str.ofString "/x/y", by simp [pths], by kernel_rfl⟩
  · exact ⟨Str.ofString "/xy", by simp [pths], by kernel_rfl⟩
  · exact ⟨Str.ofString "/x/y/z.q", by simp [pths], by kernel_rfl⟩
  · exact ⟨Str.ofString "//", by simp [pths], by kernel_rfl⟩
  · exact ⟨Str.ofString "/-_.9", by simp [pths], by kernel_rfl⟩
  · exact ⟨Str.ofString "/x/y/", by simp [pths], by kernel_rfl⟩
theorem call3 (F : List Dv → Option (Rs Dv)) {f g k : FnE} {ρ : Ev} {a b c d : Dv} (h : f ρ = some (.ok a)) (h' : g ρ = some (.ok b)) (h'' : k ρ = some (.ok c)) (hF : F [a, b, c] = some (.ok d)) : fCall F 3 (aCons f (aCons g (aCons k aNil))) ρ = some (.ok d) := fCall_of (aCons_of h (aCons_of h' (aCons_of h'' aNil_of))) rfl hF
end G
namespace G
open PySem PySem.Spec PyProof.Rows L2 FD
abbrev bo (k : Bool) : Option (Rs Dv) := some (.ok (.bl k))
def En : List Str := menu
def okY : Option (Rs Dv) → Bool
  | some (.ok (.bl true)) => true
  | _ => false
theorem okY_eq {o : Option (Rs Dv)} (h : okY o = true) : o = some (.ok (.bl true)) := by
  unfold okY at h; split at h
  · rfl
  · cases h
end G
namespace G
open PySem PySem.Spec PyProof.Rows L2 FD
def nms : List Str := [Str.ofString "n", Str.ofString "m-1", Str.ofString "safe-a", Str.ofString "N_2"]
def wts : List Str := [Str.ofString "5", Str.ofString "", Str.ofString "a!b~"]
theorem nm_all : (nms.all fun n => okY (F_is_note_name [.str n])) = true := by kernel_rfl
theorem wt_all : (wts.all fun n => okY (F_is_worth [.str n])) = true := by kernel_rfl
theorem en_all : (En.all fun n => okY (F_is_name [.str n])) = true := by kernel_rfl
theorem pt_all : (pths.all fun n => okY (F_is_path [.str n])) = true := by kernel_rfl
theorem nm_y {n : Str} (h : n ∈ nms) : F_is_note_name [.str n] = bo true := okY_eq (all_mem (p := fun n => okY (F_is_note_name [.str n])) nm_all h)
theorem wt_y {n : Str} (h : n ∈ wts) : F_is_worth [.str n] = bo true := okY_eq (all_mem (p := fun n => okY (F_is_worth [.str n])) wt_all h)
theorem en_y {n : Str} (h : n ∈ En) : F_is_name [.str n] = bo true := okY_eq (all_mem (p := fun n => okY (F_is_name [.str n])) en_all h)
theorem pt_y {n : Str} (h : n ∈ pths) : F_is_path [.str n] = bo true := okY_eq (all_mem (p := fun n => okY (F_is_path [.str n])) pt_all h)
theorem me {h : Str} (q : h ∈ menu) : h ∈ En := q
theorem ix_mem {l : List Dv} {d : Int} (h0 : 0 ≤ d) (h1 : d < l.length) : ∃ x ∈ l, ixD (.lst l) (.int d) = some (.ok x) := by
  have h2 : d.toNat < l.length := by omega
  refine ⟨l[d.toNat], List.getElem_mem h2, ?_⟩
  show (match atD l d with | some d => _ | none => _) = _
  unfold atD
  rw [if_pos h0, List.getElem?_eq_getElem h2]
theorem rt_of {f : FnE} {ρ : Ev} {d : Dv} (h : f ρ = some (.ok d)) : fRet f ρ = some (.rt d) := by unfold fRet; rw [h]; rfl
theorem bOr_of {a b : FnB} {ρ : Ev} {x y : Bool} (ha : a ρ = some (.ok x)) (hb : b ρ = some (.ok y)) : bOr a b ρ = some (.ok (x || y)) := by
  unfold bOr; rw [ha]; cases x
  · exact hb
  · rfl
theorem mom_i (i : Int) : F_is_moment [.int i] = bo (decide (0 ≤ i) && decide (i ≤ 9999)) := by
  have e : F_is_whole_number [.int i, .int 0, .int 9999] = bo (decide (0 ≤ i) && decide (i ≤ 9999)) := by
    by_cases h0 : 0 ≤ i
    · simp [F_is_whole_number, runF, B_is_whole_number, fSeq, sq, fIfS, fRet, fRetN, fDrop, fSet, bndS, bnd, bOr, bAnd, bNot, fB, toB, fCall, fCallE, aCons, aNil, fVar, fC, f1, f2, ixD, atD, vOr, vAnd, vNot, fIf, fTup, fLst, fB1, fM, fRaise, fNever, isN, notN, isiD, tbBool, tbTup, tbStr, tbInt, leX, h0]
    · simp [F_is_whole_number, runF, B_is_whole_number, fSeq, sq, fIfS, fRet, fRetN, fDrop, fSet, bndS, bnd, bOr, bAnd, bNot, fB, toB, fCall, fCallE, aCons, aNil, fVar, fC, f1, f2, ixD, atD, vOr, vAnd, vNot, fIf, fTup, fLst, fB1, fM, fRaise, fNever, isN, notN, isiD, tbBool, tbTup, tbStr, tbInt, leX, h0]
  simp [F_is_moment, runF, B_is_moment, fSeq, sq, fIfS, fRet, fRetN, fDrop, fSet, bndS, bnd, bOr, bAnd, bNot, fB, toB, fCall, fCallE, aCons, aNil, fVar, fC, f1, f2, ixD, atD, vOr, vAnd, vNot, fIf, fTup, fLst, fB1, fM, fRaise, fNever, isN, notN, isiD, tbBool, tbTup, tbStr, tbInt, e]
theorem mom_y {i : Int} (h0 : 0 ≤ i) (h1 : i ≤ 9999) : F_is_moment [.int i] = bo true := by
  rw [mom_i]; simp [h0, h1]
def Mo (u : Dv) : Prop := u = .non ∨ ∃ i : Int, 0 ≤ i ∧ i ≤ 9999 ∧ u = .int i
theorem momn_y {u : Dv} (h : Mo u) : F_is_moment_or_none [u] = bo true := by
  rcases h with rfl | ⟨i, h0, h1, rfl⟩
  · simp [F_is_moment_or_none, runF, B_is_moment_or_none, fSeq, sq, fIfS, fRet, fRetN, fDrop, fSet, bndS, bnd, bOr, bAnd, bNot, fB, toB, fCall, fCallE, aCons, aNil, fVar, fC, f1, f2, ixD, atD, vOr, vAnd, vNot, fIf, fTup, fLst, fB1, fM, fRaise, fNever, isN, notN, isiD, tbBool, tbTup, tbStr, tbInt]
  · simp [F_is_moment_or_none, runF, B_is_moment_or_none, fSeq, sq, fIfS, fRet, fRetN, fDrop, fSet, bndS, bnd, bOr, bAnd, bNot, fB, toB, fCall, fCallE, aCons, aNil, fVar, fC, f1, f2, ixD, atD, vOr, vAnd, vNot, fIf, fTup, fLst, fB1, fM, fRaise, fNever, isN, notN, isiD, tbBool, tbTup, tbStr, tbInt, mom_y h0 h1]
theorem reach_y {R : Str} (h : R = Str.ofString "any" ∨ R = Str.ofString "near") : F_is_reach [.str R] = bo true ∧ ∃ r, eqX (.str R) (.str "any") = bo r ∧ eqX (.str R) (.str "near") = bo (!r) := by
  rcases h with rfl | rfl
  · exact ⟨by kernel_rfl, true, by kernel_rfl, by kernel_rfl⟩
  · exact ⟨by kernel_rfl, false, by kernel_rfl, by kernel_rfl⟩
structure Note where
  nm : Str
  w : Str
  house : Str
  ex : Bool
  path : Str
  ends : Option Int
  S : Bool
  R : Str
  md : Int
  us : Int
deriving DecidableEq
def eO : Option Int → Dv
  | none => .non
  | some i => .int i
def enc (n : Note) : Dv := .tup [.str n.nm, .str n.w, .str n.house, .bl n.ex, .str n.path, eO n.ends, .bl n.S, .str n.R, .int n.md, .int n.us]
def ek (n : Note) : Dv := .tup [.str n.nm, .str n.house, .str n.path]
def key (n : Note) : List Str := [n.nm, n.house, n.path]
structure Good (n : Note) : Prop where
  nm : n.nm ∈ nms
  w : n.w ∈ wts
  house : n.house ∈ En
  path : n.path ∈ pths
  R : n.R = Str.ofString "any" ∨ n.R = Str.ofString "near"
  ends : ∀ i, n.ends = some i → 0 ≤ i ∧ i ≤ 59
  mk0 : 0 ≤ n.md
  mu : n.md ≤ n.us
  us : n.us ≤ 39
theorem eO_mo {n : Note} (g : Good n) : Mo (eO n.ends) := by
  cases h : n.ends with
  | none => exact .inl rfl
  | some i => exact .inr ⟨i, (g.ends i h).1, by have := (g.ends i h).2; omega, rfl⟩
theorem note_y {n : Note} (g : Good n) : F_is_note [enc n] = bo true := by
  have e0 : F_is_tuple_of [enc n, .int 10] = bo true := by kernel_rfl
  have e1 := mom_y g.mk0 (by have := g.mu; have := g.us; omega)
  have e2 := mom_y (Int.le_trans g.mk0 g.mu) (by have := g.us; omega)
  have e3 : F_is_moment_or_none [eO n.ends] = bo true := momn_y (eO_mo g)
  unfold enc at e0 ⊢
  simp [F_is_note, runF, B_is_note, fSeq, sq, fIfS, fRet, fRetN, fDrop, fSet, bndS, bnd, bOr, bAnd, bNot, fB, toB, fCall, fCallE, aCons, aNil, fVar, fC, f1, f2, ixD, atD, vOr, vAnd, vNot, fIf, fTup, fLst, fB1, fM, fRaise, fNever, isN, notN, isiD, tbBool, tbTup, tbStr, tbInt, e0, e1, e2, nm_y g.nm, wt_y g.w, en_y g.house, pt_y g.path, e3, (reach_y g.R).1, allD, bools, leX, g.mu]
def signs0 : List Str := nms ++ (wts ++ (En ++ (pths ++ [Str.ofString "any", Str.ofString "near"])))
theorem lay_all : (signs0.all fun x => PyData.canLay0 (.str x)) = true := by kernel_rfl
theorem lay_y {x : Str} (h : x ∈ signs0) : PyData.canLay0 (.str x) = true := all_mem (p := fun x => PyData.canLay0 (.str x)) lay_all h
theorem it_eO (o : Option Int) : It1 0 (eO o) := by cases o; exact it_non; exact it_int
theorem Good.sR {n : Note} (g : Good n) : n.R ∈ signs0 := by
  unfold signs0
  rcases g.R with h | h <;> rw [h] <;> simp
theorem it_enc {n : Note} (g : Good n) : It1 1 (enc n) := by
  refine it_tup (k := 0) fun d hd => ?_
  simp only [List.mem_cons, List.not_mem_nil, or_false] at hd
  rcases hd with rfl | rfl | rfl | rfl | rfl | rfl | rfl | rfl | rfl | rfl
  · exact it_str (lay_y (by simp [signs0, g.nm]))
  · exact it_str (lay_y (by simp [signs0, g.w]))
  · exact it_str (lay_y (by simp [signs0, g.house]))
  · exact it_bl
  · exact it_str (lay_y (by simp [signs0, g.path]))
  · exact it_eO _
  · exact it_bl
  · exact it_str (lay_y g.sR)
  · exact it_int
  · exact it_int
theorem it_ek {n : Note} (g : Good n) : It1 1 (ek n) := by
  refine it_tup (k := 0) fun d hd => ?_
  simp only [List.mem_cons, List.not_mem_nil, or_false] at hd
  rcases hd with rfl | rfl | rfl
  · exact it_str (lay_y (by simp [signs0, g.nm]))
  · exact it_str (lay_y (by simp [signs0, g.house]))
  · exact it_str (lay_y (by simp [signs0, g.path]))
theorem eqv_ek (a b : Note) : PyData.eqv (toPy (ek a)) (toPy (ek b)) = decide (key a = key b) := by
  rw [Bool.eq_iff_iff]
  simp [ek, key, toPy, toPys, PyData.eqv, PyData.eqvAll]
theorem eq_ek {a b : Note} (ga : Good a) (gb : Good b) : eqX (ek a) (ek b) = bo (decide (key a = key b)) ∧ neX (ek a) (ek b) = bo (!decide (key a = key b)) := by
  have h1 := (it_ek ga).okP (by omega)
  have h2 := (it_ek gb).okP (by omega)
  have h3 := eqv_ek a b
  have h0 : eqS (ek a) (ek b) = none := rfl
  constructor
  · unfold eqX; rw [h0, h1, h2, h3]; rfl
  · unfold neX; rw [h0, h1, h2, h3]; rfl
def ended (n : Note) (now : Int) : Bool := match n.ends with
  | none => false
  | some i => decide (i ≤ now)
def ej (js : List Note) : Dv := .tup (js.map enc)
structure Jar (js : List Note) : Prop where
  g : ∀ n ∈ js, Good n
  s : ∀ i (h : i + 1 < js.length), js[i].md ≤ js[i + 1].md
  k : (js.map key).Nodup
  l : js.length ≤ 18
theorem bnd_ok {α β : Type} {o : Option (Rs α)} {a : α} {k : α → Option (Rs β)} (h : o = some (.ok a)) : bnd o k = k a := by rw [h]; rfl
theorem rng_map : ∀ (n : Nat) (lo : Int), rng lo n = (List.range n).map fun i : Nat => Dv.int (lo + (i : Int))
  | 0, lo => rfl
  | n + 1, lo => by
    rw [List.range_succ_eq_map]
    show Dv.int lo :: rng (lo + 1) n = _
    rw [rng_map n (lo + 1)]
    simp only [List.map_cons, List.map_map]
    congr 1
    · simp
    · congr 1
      funext i
      simp only [Function.comp]
      congr 1
      omega
theorem oSeq_nx {f g : FnO2} {ρ ρ' : Ev} {ds ds' : List Dv} (h : f ρ ds = some (.nx ρ' ds')) : oSeq f g ρ ds = g ρ' ds' := by unfold oSeq; rw [h]
theorem oSet_nx {j : Nat} {f : FnE} {ρ ρ' : Ev} {ds : List Dv} {d : Dv} (h : f ρ = some (.ok d)) (e : ρ.set j (some d) = ρ') : oSet j f ρ ds = some (.nx ρ' ds) := by unfold oSet; rw [h, ← e]; rfl
theorem lsrc_of {xs : List Dv} {i : Nat} {ρ : Ev} (h : ρ[i]? = some (some (.lst xs))) : iSeq (fVar i) ρ = some (.ok xs) := by
  unfold iSeq fVar
  rw [h]
  rfl
theorem src_of {js : List Note} {i : Nat} {ρ : Ev} (h : ρ[i]? = some (some (ej js))) : iSeq (fVar i) ρ = some (.ok (js.map enc)) := by
  unfold iSeq fVar
  rw [h]
  rfl
theorem it_encs {xs : List Note} (hg : ∀ o ∈ xs, Good o) : It1 2 (.lst (xs.map enc)) := it_lst fun d hd => by
  obtain ⟨x, hx, rfl⟩ := List.mem_map.mp hd
  exact it_enc (hg x hx)
theorem it_ej {xs : List Note} (hg : ∀ o ∈ xs, Good o) : It1 2 (ej xs) := it_tup fun d hd => by
  obtain ⟨x, hx, rfl⟩ := List.mem_map.mp hd
  exact it_enc (hg x hx)
theorem nil_eq {xs : List Note} (hg : ∀ o ∈ xs, Good o) : eqX (.lst (xs.map enc)) (.lst []) = bo xs.isEmpty := by
  cases xs with
  | nil => kernel_rfl
  | cons o rest =>
    have i2 := (it_encs hg).okP (by omega)
    have i3 : okP (.lst []) = true := by kernel_rfl
    unfold eqX
    rw [show eqS (.lst ((o :: rest).map enc)) (.lst []) = none from rfl, i2, i3]
    simp [toPy, toPys, PyData.eqv, PyData.eqvAll]
theorem imms_ints : ∀ l : List Int, imms (l.map Dv.int) = true
  | [] => rfl
  | i :: l => by show (imm (.int i) && imms (l.map Dv.int)) = true; rw [imms_ints l]; rfl
theorem addT_ii (a b : Int) : addT (.int a) (.int b) = some (.ok (.int (a + b))) := rfl
end G
namespace G
open PySem PySem.Spec PyProof.Rows L2 FD
structure JI (B : Nat) (js : List Note) (now : Int) : Prop where
  g : ∀ n ∈ js, Good n
  s : js.Pairwise fun a b => a.md ≤ b.md
  k : (js.map key).Nodup
  l : js.length ≤ B
  n0 : 0 ≤ now
  n1 : now ≤ 3 * B
  m : ∀ n ∈ js, n.md ≤ now
theorem JI.keep {B : Nat} {js : List Note} {now d : Int} (J : JI B js now) (h0 : 0 ≤ d) (h1 : d < 4) : JI (B + 1) js (now + d) :=
  ⟨J.g, J.s, J.k, by have := J.l; omega, by have := J.n0; omega, by have := J.n1; omega, fun n hn => by have := J.m n hn; omega⟩
theorem JI.add {B : Nat} {js : List Note} {now d : Int} {n : Note} (J : JI B js now) (h0 : 0 ≤ d) (h1 : d < 4) (g : Good n) (hm : n.md = now + d) (hf : js.filter (fun o => decide (key o = key n)) = []) : JI (B + 1) (js ++ [n]) (now + d) := by
  have hk : ∀ o ∈ js, key o ≠ key n := fun o ho e => by
    have : o ∈ js.filter (fun o => decide (key o = key n)) := List.mem_filter.mpr ⟨ho, by simp [e]⟩
    rw [hf] at this; cases this
  refine ⟨fun x hx => ?_, ?_, ?_, by have := J.l; simp; omega, by have := J.n0; omega, by have := J.n1; omega, fun x hx => ?_⟩
  · rcases List.mem_append.mp hx with h | h
    · exact J.g x h
    · rw [List.mem_singleton.mp h]; exact g
  · refine List.pairwise_append.mpr ⟨J.s, List.pairwise_singleton .., fun a ha b hb => ?_⟩
    rw [List.mem_singleton.mp hb, hm]
    have := J.m a ha
    omega
  · rw [List.map_append]
    refine List.nodup_append.mpr ⟨J.k, by simp, fun a ha b hb e => ?_⟩
    obtain ⟨o, ho, rfl⟩ := List.mem_map.mp ha
    simp only [List.map_cons, List.map_nil, List.mem_singleton] at hb
    exact hk o ho (e.trans hb)
  · rcases List.mem_append.mp hx with h | h
    · have := J.m x h; omega
    · rw [List.mem_singleton.mp h, hm]; omega
theorem JI.jar {B : Nat} {js : List Note} {now : Int} (J : JI B js now) (hB : B ≤ 18) : Jar js :=
  ⟨J.g, fun i h => List.pairwise_iff_getElem.mp J.s i (i + 1) (by omega) h (by omega), J.k, by have := J.l; omega⟩
def jb (ns : List Int) (z m now : Int) : Ev := [some (.scr ns), some (.int z), some (.int m), none, some (.int now), none, none, none, none, none, none, none, none, none, none, none]
def cJ : FnB := (fB (f2 eqX (fComp [("_law_note", 15)] (iSeq (fVar 3)) (some (fB (f2 eqX (fTup (aCons (f2 ixD (fVar 0) (fC (.int 0))) (aCons (f2 ixD (fVar 0) (fC (.int 2))) (aCons (f2 ixD (fVar 0) (fC (.int 4))) aNil)))) (fTup (aCons (f2 ixD (fVar 1) (fC (.int 0))) (aCons (f2 ixD (fVar 1) (fC (.int 2))) (aCons (f2 ixD (fVar 1) (fC (.int 4))) aNil))))))) (fVar 0)) (fLst aNil)))
theorem cJ_of {js : List Note} {n : Note} {ρ : Ev} (hg : ∀ o ∈ js, Good o) (gn : Good n) (hl : js.length ≤ 18) (h3 : ρ[3]? = some (some (.lst (js.map enc)))) (h15 : ρ[15]? = some (some (enc n))) : cJ ρ = some (.ok (js.filter (fun o => decide (key o = key n))).isEmpty) := by
  have hc : capE [("_law_note", 15)] ρ = [none, some (enc n)] := by simp [capE, h15]
  have e1 := comp_some (cs := [("_law_note", 15)]) (src := iSeq (fVar 3)) (tst := (fB (f2 eqX (fTup (aCons (f2 ixD (fVar 0) (fC (.int 0))) (aCons (f2 ixD (fVar 0) (fC (.int 2))) (aCons (f2 ixD (fVar 0) (fC (.int 4))) aNil)))) (fTup (aCons (f2 ixD (fVar 1) (fC (.int 0))) (aCons (f2 ixD (fVar 1) (fC (.int 2))) (aCons (f2 ixD (fVar 1) (fC (.int 4))) aNil))))))) (elt := fVar 0) (ρ := ρ) enc (fun o => decide (key o = key n)) enc (lsrc_of h3) (by omega) fun o ho => ⟨by
    rw [hc]
    exact fB_of ((f2_of (x := ek o) (y := ek n) rfl rfl).trans (eq_ek (hg o ho) gn).1), by rw [hc]; rfl⟩
  exact fB_of ((f2_of e1 rfl).trans (nil_eq fun o ho => hg o (List.mem_filter.mp ho).1))
theorem jar_round (ns : List Int) (hl : ns.length ≤ 63) (z m now k : Int) {B : Nat} {js : List Note} (J : JI B js now) (hB : B ≤ 10) :
    ∃ ρ' js' now', b__law_jar_0 ((jb ns z m now).set 5 (some (.int k))) (js.map enc) = some (.nx ρ' (js'.map enc)) ∧ fgt [5, 6, 7, 8, 9, 10, 11, 12, 13, 14, 15] ρ' = jb ns z m now' ∧ JI (B + 1) js' now' := by
  obtain ⟨here, hh⟩ : ∃ here, here = z + 1 + 14 * k := ⟨_, rfl⟩
  obtain ⟨d0, a0, b0, e0⟩ := drawn_ok ns hl here 4 (by omega)
  obtain ⟨d1, a1, b1, e1⟩ := drawn_ok ns hl (here + 1) 4 (by omega)
  obtain ⟨d2, a2, b2, e2⟩ := drawn_ok ns hl (here + 2) 3 (by omega)
  obtain ⟨d4, a4, b4, e4⟩ := drawn_ok ns hl (here + 4) 2 (by omega)
  obtain ⟨d6, a6, b6, e6⟩ := drawn_ok ns hl (here + 6) 2 (by omega)
  obtain ⟨d7, a7, b7, e7⟩ := drawn_ok ns hl (here + 7) 60 (by omega)
  obtain ⟨d8, a8, b8, e8⟩ := drawn_ok ns hl (here + 8) 2 (by omega)
  obtain ⟨d9, a9, b9, e9⟩ := drawn_ok ns hl (here + 9) 3 (by omega)
  obtain ⟨d10, a10, b10, e10⟩ := drawn_ok ns hl (here + 10) 5 (by omega)
  obtain ⟨n3, hn3, e3⟩ := name_ok ns hl (here + 3)
  obtain ⟨p5, hp5, e5⟩ := path_ok ns hl (here + 5)
  obtain ⟨x1, m1, i1⟩ := ix_mem (l := [.str "n", .str "m-1", .str "safe-a", .str "N_2"]) a1 b1
  obtain ⟨x2, m2, i2⟩ := ix_mem (l := [.str "5", .str "", .str "a!b~"]) a2 b2
  obtain ⟨x6, m6, i6⟩ := ix_mem (l := [.non, .int d7]) a6 b6
  obtain ⟨x9, m9, i9⟩ := ix_mem (l := [.str "any", .str "any", .str "near"]) a9 b9
  have g1 : ∃ nm ∈ nms, x1 = .str nm := by
    simp only [List.mem_cons, List.not_mem_nil, or_false] at m1
    rcases m1 with rfl | rfl | rfl | rfl <;> exact ⟨_, by simp [nms], rfl⟩
  have g2 : ∃ nm ∈ wts, x2 = .str nm := by
    simp only [List.mem_cons, List.not_mem_nil, or_false] at m2
    rcases m2 with rfl | rfl | rfl <;> exact ⟨_, by simp [wts], rfl⟩
  have g6 : ∃ o : Option Int, (∀ i, o = some i → 0 ≤ i ∧ i ≤ 59) ∧ x6 = eO o := by
    simp only [List.mem_cons, List.not_mem_nil, or_false] at m6
    rcases m6 with rfl | rfl
    · exact ⟨none, by simp, rfl⟩
    · exact ⟨some d7, fun i hi => by cases hi; omega, rfl⟩
  have g9 : ∃ R, (R = Str.ofString "any" ∨ R = Str.ofString "near") ∧ x9 = .str R := by
    simp only [List.mem_cons, List.not_mem_nil, or_false] at m9
    rcases m9 with rfl | rfl | rfl
    · exact ⟨_, .inl rfl, rfl⟩
    · exact ⟨_, .inl rfl, rfl⟩
    · exact ⟨_, .inr rfl, rfl⟩
  obtain ⟨nm, hnm, rfl⟩ := g1
  obtain ⟨w, hw, rfl⟩ := g2
  obtain ⟨o, ho, rfl⟩ := g6
  obtain ⟨R, hR, rfl⟩ := g9
  let n : Note := ⟨nm, w, n3, d4 == 0, p5, o, d8 == 0, R, now + d0, now + d0 + d10⟩
  have q0 := J.n0
  have q1 := J.n1
  have gn : Good n := ⟨hnm, hw, me hn3, hp5, hR, ho, by show 0 ≤ now + d0; omega, by show now + d0 ≤ now + d0 + d10; omega, by show now + d0 + d10 ≤ 39; omega⟩
  let E15 : Ev := [some (.scr ns), some (.int z), some (.int m), none, some (.int (now + d0)), some (.int k), some (.int here), some (.str nm), some (.str w), some (eO o), some (.bl (d4 == 0)), some (.tup [.str nm, .str w, .str n3, .bl (d4 == 0), .str p5]), some (.str R), some (.bl (d8 == 0)), some (.int (now + d0 + d10)), some (enc n)]
  have hc := cJ_of (ρ := E15.set 3 (some (.lst (js.map enc)))) J.g gn (by have := J.l; omega) rfl rfl
  have hmul : mulD (.int 14) (.int k) = some (.ok (.int (14 * k))) := mul_ok (.inl (by omega))
  have hrun : b__law_jar_0 ((jb ns z m now).set 5 (some (.int k))) (js.map enc) = oIfR 3 cJ (oApp (fVar 15)) oNil E15 (js.map enc) := by
    have eB : b__law_jar_0 = (oSeq (oSet 6 (f2 addT (f2 addT (fVar 1) (fC (.int 1))) (f2 mulD (fC (.int 14)) (fVar 5)))) (oSeq (oSet 4 (f2 addT (fVar 4) (fCall F__law_drawn 3 (aCons (fVar 0) (aCons (fVar 6) (aCons (fC (.int 4)) aNil)))))) (oSeq (oSet 7 (f2 ixD (fLst (aCons (fC (.str "n")) (aCons (fC (.str "m-1")) (aCons (fC (.str "safe-a")) (aCons (fC (.str "N_2")) aNil))))) (fCall F__law_drawn 3 (aCons (fVar 0) (aCons (f2 addT (fVar 6) (fC (.int 1))) (aCons (fC (.int 4)) aNil)))))) (oSeq (oSet 8 (f2 ixD (fLst (aCons (fC (.str "5")) (aCons (fC (.str "")) (aCons (fC (.str "a!b~")) aNil)))) (fCall F__law_drawn 3 (aCons (fVar 0) (aCons (f2 addT (fVar 6) (fC (.int 2))) (aCons (fC (.int 3)) aNil)))))) (oSeq (oSet 9 (f2 ixD (fLst (aCons (fC .non) (aCons (fCall F__law_drawn 3 (aCons (fVar 0) (aCons (f2 addT (fVar 6) (fC (.int 7))) (aCons (fC (.int 60)) aNil)))) aNil))) (fCall F__law_drawn 3 (aCons (fVar 0) (aCons (f2 addT (fVar 6) (fC (.int 6))) (aCons (fC (.int 2)) aNil)))))) (oSeq (oSet 10 (f2 eqX (fCall F__law_drawn 3 (aCons (fVar 0) (aCons (f2 addT (fVar 6) (fC (.int 4))) (aCons (fC (.int 2)) aNil)))) (fC (.int 0)))) (oSeq (oSet 11 (fTup (aCons (fVar 7) (aCons (fVar 8) (aCons (fCall F__law_name 2 (aCons (fVar 0) (aCons (f2 addT (fVar 6) (fC (.int 3))) aNil))) (aCons (fVar 10) (aCons (fCall F__law_path 2 (aCons (fVar 0) (aCons (f2 addT (fVar 6) (fC (.int 5))) aNil))) aNil))))))) (oSeq (oSet 12 (f2 ixD (fLst (aCons (fC (.str "any")) (aCons (fC (.str "any")) (aCons (fC (.str "near")) aNil)))) (fCall F__law_drawn 3 (aCons (fVar 0) (aCons (f2 addT (fVar 6) (fC (.int 9))) (aCons (fC (.int 3)) aNil)))))) (oSeq (oSet 13 (f2 eqX (fCall F__law_drawn 3 (aCons (fVar 0) (aCons (f2 addT (fVar 6) (fC (.int 8))) (aCons (fC (.int 2)) aNil)))) (fC (.int 0)))) (oSeq (oSet 14 (f2 addT (fVar 4) (fCall F__law_drawn 3 (aCons (fVar 0) (aCons (f2 addT (fVar 6) (fC (.int 10))) (aCons (fC (.int 5)) aNil)))))) (oSeq (oSet 15 (f2 addT (fVar 11) (fTup (aCons (fVar 9) (aCons (fVar 13) (aCons (fVar 12) (aCons (fVar 4) (aCons (fVar 14) aNil)))))))) (oIfR 3 cJ (oApp (fVar 15)) oNil)))))))))))) := rfl
    rw [eB]
    subst hh
    simp [jb, oSeq, oSet, bndO, bnd, fCall, aCons, aNil, fVar, fC, f2, fTup, fLst, addT_ii, hmul, e0, e1, e2, e3, e4, e5, e6, e7, e8, e9, e10, i1, i2, i6, i9, eqX, eqS, E15, enc, n]
    simp [addT]
  rw [hrun]
  cases hf : (js.filter (fun o => decide (key o = key n))) with
  | nil =>
    rw [hf] at hc
    refine ⟨E15, js ++ [n], now + d0, ?_, rfl, J.add a0 b0 gn rfl hf⟩
    unfold oIfR
    rw [hc]
    show (if (js.map enc).length < 100000 then _ else _) = _
    rw [if_pos (by have := J.l; simp; omega)]
    show some (Fo.nx _ (js.map enc ++ [enc n])) = _
    simp
  | cons c r =>
    rw [hf] at hc
    refine ⟨E15, js, now + d0, ?_, rfl, J.keep a0 b0⟩
    unfold oIfR
    rw [hc]
    rfl
theorem jar_loop (ns : List Int) (hl : ns.length ≤ 63) (z m : Int) : ∀ (ks : List Int) (ρ : Ev) (now : Int) (B : Nat) (js : List Note), B + ks.length ≤ 10 → fgt [5, 6, 7, 8, 9, 10, 11, 12, 13, 14, 15] ρ = jb ns z m now → JI B js now →
    ∃ js' now', loopO 5 [5, 6, 7, 8, 9, 10, 11, 12, 13, 14, 15] b__law_jar_0 (ks.map Dv.int) ρ (js.map enc) = some (.nx (jb ns z m now') (js'.map enc)) ∧ JI (B + ks.length) js' now'
  | [], ρ, now, B, js, _, hρ, J => ⟨js, now, by show some (Fo.nx _ _) = _; rw [hρ], J⟩
  | k :: ks, ρ, now, B, js, hb, hρ, J => by
    simp only [List.length_cons] at hb
    obtain ⟨ρ', js', now', e, hρ', J'⟩ := jar_round ns hl z m now k J (by omega)
    obtain ⟨js2, now2, e2, J2⟩ := jar_loop ns hl z m ks ρ' now' (B + 1) js' (by omega) hρ' J'
    refine ⟨js2, now2, ?_, by rw [List.length_cons, show B + (ks.length + 1) = B + 1 + ks.length by omega]; exact J2⟩
    show (match b__law_jar_0 ((fgt _ ρ).set 5 (some (.int k))) (js.map enc) with
      | some (.nx ρ' xs') => loopO 5 _ b__law_jar_0 (ks.map Dv.int) ρ' xs'
      | o => o) = _
    rw [hρ, e]
    exact e2
theorem jar_ok (ns : List Int) (hl : ns.length ≤ 63) (z : Int) (m : Nat) (hm : m ≤ 8) : ∃ js now, F__law_jar [.scr ns, .int z, .int m] = some (.ok (ej js)) ∧ Jar js ∧ js.length ≤ m ∧ JI m js now := by
  obtain ⟨d, a0, b0, e0⟩ := drawn_ok ns hl z (m + 1) (by omega)
  obtain ⟨c, rfl⟩ : ∃ c : Nat, d = (c : Int) := ⟨d.toNat, by omega⟩
  have hr : rng1 [.int (c : Int)] = some (.ok (((List.range c).map fun i : Nat => (i : Int)).map Dv.int)) := by
    rw [rng1_n (by omega), rng_map]
    simp
  obtain ⟨js, now, e, J⟩ := jar_loop ns hl z m ((List.range c).map fun i : Nat => (i : Int)) (jb ns z m 0) 0 0 [] (by simp; omega) rfl ⟨by simp, List.Pairwise.nil, by simp, by simp, by omega, by omega, by simp⟩
  have hlen : ((List.range c).map fun i : Nat => (i : Int)).length = c := by simp
  rw [hlen] at J
  have J5 := J.l
  refine ⟨js, now, ?_, J.jar (by omega), by omega, ⟨J.g, J.s, J.k, by omega, J.n0, by have := J.n1; omega, J.m⟩⟩
  refine run_rt (d := ej js) ?_
  show fOwn 3 aNil _ [some (.scr ns), some (.int z), some (.int m), none, none, none, none, none, none, none, none, none, none, none, none, none] = _
  have hsrc : (fun ρ => bnd ((aCons (fCall F__law_drawn 3 (aCons (fVar 0) (aCons (fVar 1) (aCons (f2 addT (fVar 2) (fC (.int 1))) aNil)))) aNil) ρ) rng1) (jb ns z m 0) = some (.ok (((List.range c).map fun i : Nat => (i : Int)).map Dv.int)) := by
    have h : (aCons (fCall F__law_drawn 3 (aCons (fVar 0) (aCons (fVar 1) (aCons (f2 addT (fVar 2) (fC (.int 1))) aNil)))) aNil) (jb ns z m 0) = some (.ok [.int (c : Int)]) := by
      simp [bnd, aCons, aNil, fCall, fC, fVar, f2, jb, addT_ii, e0]
    exact (bnd_ok (k := rng1) h).trans hr
  have hfor : oFor 5 [5, 6, 7, 8, 9, 10, 11, 12, 13, 14, 15] (fun ρ => bnd ((aCons (fCall F__law_drawn 3 (aCons (fVar 0) (aCons (fVar 1) (aCons (f2 addT (fVar 2) (fC (.int 1))) aNil)))) aNil) ρ) rng1) b__law_jar_0 (jb ns z m 0) [] = some (.nx (jb ns z m now) (js.map enc)) := by
    unfold oFor
    rw [hsrc]
    show (if imms (((List.range c).map fun i : Nat => (i : Int)).map Dv.int) = true then _ else none) = _
    rw [if_pos (imms_ints _)]
    exact e
  have hle : js.length ≤ 100000 := by omega
  have hret : oRet 3 (fB1 tupleD (aCons (fVar 3) aNil)) (jb ns z m now) (js.map enc) = some (.rt (ej js)) := by
    unfold oRet
    rw [fB1_of (aCons_of (x := .lst (js.map enc)) rfl aNil_of)]
    rfl
  have hbody : (oSeq (oSet 4 (fC (.int 0))) (oSeq (oFor 5 [5, 6, 7, 8, 9, 10, 11, 12, 13, 14, 15] (fun ρ => bnd ((aCons (fCall F__law_drawn 3 (aCons (fVar 0) (aCons (fVar 1) (aCons (f2 addT (fVar 2) (fC (.int 1))) aNil)))) aNil) ρ) rng1) b__law_jar_0) (oRet 3 (fB1 tupleD (aCons (fVar 3) aNil))))) [some (.scr ns), some (.int z), some (.int m), none, none, none, none, none, none, none, none, none, none, none, none, none] [] = some (.rt (ej js)) := by
    rw [oSeq_nx (show oSet 4 (fC (.int 0)) [some (.scr ns), some (.int z), some (.int m), none, none, none, none, none, none, none, none, none, none, none, none, none] [] = some (.nx (jb ns z m 0) []) from rfl)]
    rw [oSeq_nx hfor]
    exact hret
  unfold fOwn
  show (if ([] : List Dv).length ≤ 100000 then _ else none) = _
  rw [if_pos (by simp)]
  exact (congrArg (fun o => match o with | some (Fo.nx ρ' ds') => some (Fl.nx (List.set ρ' 3 (some (Dv.lst ds')))) | some (Fo.rt d) => some (Fl.rt d) | none => none) hbody).trans rfl
end G
namespace G
open PySem PySem.Spec PyProof.Rows L2 FD
theorem key_of (n : Note) : F_key [enc n] = some (.ok (ek n)) := by simp [F_key, runF, B_key, fSeq, sq, fIfS, fRet, fRetN, fDrop, fSet, bndS, bnd, bOr, bAnd, bNot, fB, toB, fCall, fCallE, aCons, aNil, fVar, fC, f1, f2, ixD, atD, vOr, vAnd, vNot, fIf, fTup, fLst, fB1, fM, fRaise, fNever, isN, notN, isiD, tbBool, tbTup, tbStr, tbInt, enc, ek]
theorem keysOf_ek : ∀ js : List Note, keysOf (js.map ek) = some (js.map key)
  | [] => rfl
  | n :: js => by
    show (match strsOf [.str n.nm, .str n.house, .str n.path], keysOf (js.map ek) with | some k, some ks => some (k :: ks) | _, _ => none) = _
    rw [keysOf_ek js]
    rfl
theorem nodup_ddk {js : List Note} : ((ST.ddk (js.map key)).length == js.length) = decide ((js.map key).Nodup) := by
  have := ST.ddk_eq (js.map key)
  rw [List.length_map] at this
  rw [Bool.eq_iff_iff]
  simp [this]
theorem twice_b {js : List Note} (hl : js.length ≤ 18) : F_has_no_key_twice [ej js] = bo (decide ((js.map key).Nodup)) := by
  have e1 : fCompG 1 [] (iSeq (fVar 0)) (gN 0) none (fCall F_key 1 (aCons (fVar 0) aNil)) [some (ej js), none] = some (.ok (.lst (js.map ek))) :=
    compG_all enc ek (src_of rfl) (by omega) fun n hn => call1 F_key rfl (key_of n)
  have e2 : lenSetU [.lst (js.map ek)] = some (.ok (.int (ST.ddk (js.map key)).length)) := by
    show (match keysOf (js.map ek) with | some ks => if ks.length ≤ 20 then (some (.ok (.int (ST.ddk ks).length)) : Option (Rs Dv)) else none | none => none) = _
    rw [keysOf_ek]
    dsimp only
    rw [if_pos (by simp; omega)]
  refine run_rt ?_
  show B_has_no_key_twice [some (ej js), none] = _
  unfold B_has_no_key_twice
  rw [fSeq_nx (fSet_nx (ρ' := [some (ej js), some (.lst (js.map ek))]) e1 rfl)]
  refine fRet_rt ((f2_of ((fB1_of (aCons_of (x := .lst (js.map ek)) rfl aNil_of)).trans e2) (y := .int js.length) (by show some (Rs.ok (Dv.int ((js.map ek).length : Int))) = _; rw [List.length_map])).trans ?_)
  show some (Rs.ok (Dv.bl (((ST.ddk (js.map key)).length : Int) == (js.length : Int)))) = _
  rw [← nodup_ddk]
  congr 3
  rw [Bool.eq_iff_iff]
  simp
  omega
theorem all_map {α : Type} (p : α → Bool) (l : List α) : allD [.lst (l.map fun a => Dv.bl (p a))] = bo (l.all p) := by
  unfold allD
  dsimp only
  rw [bools_map p l]
  dsimp only
  rw [List.all_map]
  rfl
theorem all_true {α : Type} (l : List α) : allD [.lst (l.map fun _ => Dv.bl true)] = bo true := by
  rw [all_map (fun _ => true) l]
  simp
theorem ix_ej {js : List Note} {i : Nat} (h : i < js.length) : ixD (ej js) (.int i) = some (.ok (enc js[i])) := by
  show (match atD (js.map enc) (i : Int) with | some d => _ | none => _) = _
  unfold atD
  rw [if_pos (by omega)]
  simp [h]
theorem ix_md (n : Note) : ixD (enc n) (.int 8) = some (.ok (.int n.md)) := rfl
theorem rng_of (js : List Note) (hl : js.length ≤ 18) : (fun ρ => bnd ((aCons (fC (.int 1)) (aCons (fB1 lenD (aCons (fVar 0) aNil)) aNil)) ρ) rng2) [some (ej js)] = some (.ok ((List.range (js.length - 1)).map fun i : Nat => Dv.int (1 + (i : Int)))) := by
  have h : (aCons (fC (.int 1)) (aCons (fB1 lenD (aCons (fVar 0) aNil)) aNil)) [some (ej js)] = some (.ok [.int 1, .int js.length]) := by
    simp [bnd, aCons, aNil, fB1, fC, fVar, ej, lenD]
  refine (bnd_ok (k := rng2) h).trans ?_
  rw [rng2_n (by omega), rng_map, show ((js.length : Int) - 1).toNat = js.length - 1 by omega]
def eltM : FnE := (f2 leX (f2 ixD (f2 ixD (fVar 1) (f2 subD (fVar 0) (fC (.int 1)))) (fC (.int 8))) (f2 ixD (f2 ixD (fVar 1) (fVar 0)) (fC (.int 8))))
def mdAt (js : List Note) (i : Nat) : Int := (js[i]?.map Note.md).getD 0
def riB (js : List Note) : Bool := (List.range (js.length - 1)).all fun i => decide (mdAt js i ≤ mdAt js (i + 1))
theorem mdAt_of {js : List Note} {i : Nat} (h : i < js.length) : mdAt js i = js[i].md := by
  unfold mdAt
  rw [List.getElem?_eq_getElem h]
  rfl
theorem eltM_b {js : List Note} {i : Nat} (hi' : i + 1 < js.length) : eltM [some (.int (1 + (i : Int))), some (ej js)] = some (.ok (.bl (decide (mdAt js i ≤ mdAt js (i + 1))))) := by
  have h1 : f2 ixD (fVar 1) (f2 subD (fVar 0) (fC (.int 1))) [some (.int (1 + (i : Int))), some (ej js)] = some (.ok (enc js[i])) := by
    have q := ix_ej (js := js) (i := i) (by omega)
    rw [show (i : Int) = 1 + (i : Int) - 1 by omega] at q
    exact q
  have h2 : f2 ixD (fVar 1) (fVar 0) [some (.int (1 + (i : Int))), some (ej js)] = some (.ok (enc js[i + 1])) := by
    have q := ix_ej (js := js) (i := i + 1) hi'
    rw [show ((i + 1 : Nat) : Int) = 1 + (i : Int) by omega] at q
    exact q
  rw [mdAt_of (show i < js.length by omega), mdAt_of hi']
  exact (f2_of ((f2_of h1 rfl).trans (ix_md _)) ((f2_of h2 rfl).trans (ix_md _))).trans rfl
theorem made_b {js : List Note} (hl : js.length ≤ 18) : F_is_by_made [ej js] = bo (riB js) := by
  have e := comp_all (cs := [("notes", 0)]) (src := (fun ρ => bnd ((aCons (fC (.int 1)) (aCons (fB1 lenD (aCons (fVar 0) aNil)) aNil)) ρ) rng2)) (elt := eltM) (ρ := [some (ej js)]) (fun i : Nat => Dv.int (1 + (i : Int))) (fun i : Nat => Dv.bl (decide (mdAt js i ≤ mdAt js (i + 1)))) (rng_of js hl) (by rw [List.length_range]; omega) fun i hi => eltM_b (by have := List.mem_range.mp hi; omega)
  exact run_rt (d := .bl (riB js)) (fRet_rt ((fB1_of (aCons_of e aNil_of)).trans (all_map (fun i : Nat => decide (mdAt js i ≤ mdAt js (i + 1))) _)))
def isJ (js : List Note) : Bool := riB js && decide ((js.map key).Nodup)
theorem jar_b {js : List Note} (hg : ∀ n ∈ js, Good n) (hl : js.length ≤ 18) : F_is_jar [ej js] = bo (isJ js) := by
  have ta : fComp [] (iSeq (fVar 0)) none (fCall F_is_note 1 (aCons (fVar 0) aNil)) [some (ej js)] = some (.ok (.lst (js.map fun _ => Dv.bl true))) :=
    comp_all enc (fun _ => Dv.bl true) (src_of rfl) (by omega) fun n hn => call1 F_is_note rfl (note_y (hg n hn))
  have tb : (bOr (bNot (fB (f1 (isiD tbTup) (fVar 0)))) (fB (f2 gtD (fB1 lenD (aCons (fVar 0) aNil)) (fC (.int 20))))) [some (ej js)] = some (.ok false) := by
    have e3 : ¬ (20 < (js.length : Int)) := by omega
    simp [fSeq, sq, bOr, bNot, fB, f1, f2, isiD, tbTup, fVar, bnd, toB, fB1, aCons, aNil, fC, ej, lenD, cmpD, e3]
  have tc : fB1 allD (aCons (fComp [] (iSeq (fVar 0)) none (fCall F_is_note 1 (aCons (fVar 0) aNil))) aNil) [some (ej js)] = bo true := (fB1_of (aCons_of ta aNil_of)).trans (all_true js)
  refine run_rt ?_
  show B_is_jar [some (ej js)] = _
  unfold B_is_jar
  rw [fSeq_nx (ifS_skip tb)]
  rw [fSeq_nx (ifS_skip (bNot_of (k := true) (fB_of tc)))]
  refine fRet_rt ?_
  have hm := call1 F_is_by_made (f := fVar 0) (ρ := [some (ej js)]) rfl (made_b hl)
  unfold isJ
  cases hr : riB js with
  | false => rw [hr] at hm; rw [vAnd_F hm]; rfl
  | true => rw [hr] at hm; rw [vAnd_T hm]; exact call1 F_has_no_key_twice rfl (twice_b hl)
theorem isJ_of {js : List Note} (J : Jar js) : isJ js = true := by
  unfold isJ
  rw [Bool.and_eq_true, decide_eq_true_eq]
  refine ⟨List.all_eq_true.mpr fun i hi => ?_, J.k⟩
  have hi' : i + 1 < js.length := by have := List.mem_range.mp hi; omega
  rw [decide_eq_true_eq, mdAt_of (show i < js.length by omega), mdAt_of hi']
  exact J.s i hi'
theorem jar_y {js : List Note} (J : Jar js) : F_is_jar [ej js] = bo true := by rw [jar_b J.g J.l, isJ_of J]
end G
namespace G
open PySem PySem.Spec PyProof.Rows L2 FD
def putJ (js : List Note) (n : Note) : List Note := match js.filter (fun o => decide (key o = key n)) with
  | [] => js ++ [n]
  | o :: _ => js.map fun x => if key x = key n then { n with md := o.md } else x
theorem put_of {js : List Note} {n : Note} (hg : ∀ o ∈ js, Good o) (gn : Good n) (hl : js.length ≤ 18) : F_put [ej js, enc n] = some (.ok (ej (putJ js n))) := by
  have t1 : ∀ o ∈ js, ∀ (r : Ev), (fB (f2 eqX (fCall F_key 1 (aCons (fVar 0) aNil)) (fCall F_key 1 (aCons (fVar 1) aNil)))) (some (enc o) :: some (enc n) :: r) = some (.ok (decide (key o = key n))) := fun o ho r => fB_of ((f2_of (call1 F_key rfl (key_of o)) (call1 F_key rfl (key_of n))).trans (eq_ek (hg o ho) gn).1)
  have e1 := compG_some (cs := [("note", 1)]) (src := iSeq (fVar 0)) (tst := (fB (f2 eqX (fCall F_key 1 (aCons (fVar 0) aNil)) (fCall F_key 1 (aCons (fVar 1) aNil))))) (elt := fVar 0) (ρ := [some (ej js), some (enc n), none, none]) enc (fun o => decide (key o = key n)) enc (src_of rfl) (by omega) fun o ho => ⟨t1 o ho [], rfl⟩
  unfold putJ
  cases hf : js.filter (fun o => decide (key o = key n)) with
  | nil =>
    rw [hf] at e1
    refine run_rt (d := ej (js ++ [n])) ?_
    show B_put [some (ej js), some (enc n), none, none] = _
    unfold B_put
    rw [fSeq_nx (fSet_nx e1 rfl)]
    simp only [List.set_cons_succ, List.set_cons_zero]
    refine fSeq_rt ?_
    rw [ifS_T (by kernel_rfl)]
    refine fRet_rt ?_
    have hle : js.length + 1 ≤ 100000 := by omega
    simp [fSeq, sq, fIfS, fRet, fRetN, fDrop, fSet, bndS, bnd, bOr, bAnd, bNot, fB, toB, fCall, fCallE, aCons, aNil, fVar, fC, f1, f2, ixD, atD, vOr, vAnd, vNot, fIf, fTup, fLst, fB1, fM, fRaise, fNever, isN, notN, isiD, tbBool, tbTup, tbStr, tbInt, ej, addT, hle]
  | cons o rest =>
    rw [hf] at e1
    have ho : o ∈ js := (List.mem_filter.mp (hf ▸ List.mem_cons_self : o ∈ js.filter _)).1
    refine run_rt (d := ej (js.map fun x => if key x = key n then { n with md := o.md } else x)) ?_
    show B_put [some (ej js), some (enc n), none, none] = _
    unfold B_put
    rw [fSeq_nx (fSet_nx e1 rfl)]
    simp only [List.set_cons_succ, List.set_cons_zero]
    have hne : (fB (f2 eqX (fVar 2) (fLst aNil))) [some (ej js), some (enc n), some (.lst ((o :: rest).map enc)), none] = some (.ok false) := by
      have i1 : It1 2 (.lst ((o :: rest).map enc)) := it_lst fun d hd => by
        obtain ⟨x, hx, rfl⟩ := List.mem_map.mp hd
        have : x ∈ js.filter (fun o => decide (key o = key n)) := by rw [hf]; exact hx
        exact it_enc (hg x (List.mem_filter.mp this).1)
      have i2 := i1.okP (by omega)
      have i3 : okP (.lst []) = true := by kernel_rfl
      have i4 : eqX (.lst ((o :: rest).map enc)) (.lst []) = bo false := by
        unfold eqX
        rw [show eqS (.lst ((o :: rest).map enc)) (.lst []) = none from rfl, i2, i3]
        simp [toPy, toPys, PyData.eqv, PyData.eqvAll]
      exact fB_of i4
    rw [fSeq_nx (ifS_skip hne)]
    have hnew : (f2 addT (f2 addT (fCutT (fVar 1) oNone (oSome (fC (.int 8)))) (fTup (aCons (f2 ixD (f2 ixD (fVar 2) (fC (.int 0))) (fC (.int 8))) aNil))) (fCutT (fVar 1) (oSome (f2 addT (fC (.int 8)) (fC (.int 1)))) oNone)) [some (ej js), some (enc n), some (.lst ((o :: rest).map enc)), none] = some (.ok (enc { n with md := o.md })) := by kernel_rfl
    rw [fSeq_nx (fSet_nx hnew rfl)]
    simp only [List.set_cons_succ, List.set_cons_zero]
    refine fRet_rt ?_
    have e2 := comp_all (cs := [("note", 1), ("newer", 3)]) (src := iSeq (fVar 0)) (elt := (fIf (fB (f2 eqX (fCall F_key 1 (aCons (fVar 0) aNil)) (fCall F_key 1 (aCons (fVar 1) aNil)))) (fVar 2) (fVar 0))) (ρ := [some (ej js), some (enc n), some (.lst ((o :: rest).map enc)), some (enc { n with md := o.md })]) enc (fun x => enc (if key x = key n then { n with md := o.md } else x)) (src_of rfl) (by omega) fun x hx => by
      have t := t1 x hx [some (enc { n with md := o.md })]
      by_cases hk : key x = key n
      · rw [if_pos hk]
        rw [decide_eq_true hk] at t
        exact (fIf_T t).trans rfl
      · rw [if_neg hk]
        rw [decide_eq_false hk] at t
        exact (fIf_F t).trans rfl
    rw [fB1_of (aCons_of e2 aNil_of)]
    show some (Rs.ok (Dv.tup _)) = _
    simp [ej]
end G
namespace G
open PySem PySem.Spec PyProof.Rows L2 FD
def step (t : Str) (o : Option Str) : Str := match o with
  | none => t
  | some y => t ++ Str.ofString "; " ++ y
def is (i : Int) : Str := Str.ofString (toString i)
theorem is_len {i : Int} (h0 : 0 ≤ i) (h1 : i ≤ 9999) : (is i).length ≤ 10001 := by
  have := PyProof.Rows.len_str_of_int i
  unfold is
  omega
theorem str_i {i : Int} (h0 : 0 ≤ i) (h1 : i ≤ 9999) : strD [.int i] = some (.ok (.str (is i))) := by
  show (if i.natAbs.log2 < 1920 then _ else none) = _
  rw [if_pos]
  · rfl
  · have e : i.natAbs < 2 ^ 1920 := Nat.lt_of_lt_of_le (show i.natAbs < 2 ^ 14 by omega) (Nat.pow_le_pow_right (by decide) (by decide))
    by_cases z : i.natAbs = 0
    · rw [z]; decide
    · exact (Nat.log2_lt z).mpr e
def T0 (nm w : Str) : Str := nm ++ Str.ofString "=" ++ w
theorem add_s {x y : Str} (h : x.length + y.length ≤ 100000) : addD (.str x) (.str y) = some (.ok (.str (x ++ y))) := by
  show (if x.length + y.length ≤ 100000 then _ else none) = _
  rw [if_pos h]
theorem cutL_to {α : Type} (l : List α) (n : Nat) (h : n ≤ l.length) : cutL l none (some (n : Int)) = l.take n := by
  unfold cutL HT.sIx
  simp only [List.drop_zero]
  rw [if_neg (by omega)]
  congr 1
  omega
theorem cutL_from {α : Type} (l : List α) (n : Nat) (h : n ≤ l.length) : cutL l (some (n : Int)) none = l.drop n := by
  unfold cutL HT.sIx
  simp only
  rw [if_neg (by omega), show min (n : Int).toNat l.length = n by omega, List.take_of_length_le (by simp)]
theorem addT_l {a b : List Dv} (h : a.length + b.length ≤ 100000) : addT (.lst a) (.lst b) = some (.ok (.lst (a ++ b))) := by
  show (if a.length + b.length ≤ 100000 then _ else none) = _
  rw [if_pos h]
mutual
def deq : Dv → Dv → Bool
  | .non, .non => true
  | .bl a, .bl b => a == b
  | .int a, .int b => a == b
  | .str a, .str b => seq a b
  | .tup a, .tup b => deqs a b
  | .lst a, .lst b => deqs a b
  | _, _ => false
def deqs : List Dv → List Dv → Bool
  | [], [] => true
  | a :: l, b :: m => deq a b && deqs l m
  | _, _ => false
end
theorem sq_eq {x y : Str} (h : seq x y = true) : x = y := by
  unfold seq at h
  obtain ⟨⟨a⟩⟩ := x; obtain ⟨⟨b⟩⟩ := y
  simp at h
  rw [h]
mutual
theorem deq_eq : ∀ {a b : Dv}, deq a b = true → a = b
  | .non, .non, _ => rfl
  | .bl a, .bl b, h => by unfold deq at h; rw [eq_of_beq h]
  | .int a, .int b, h => by unfold deq at h; rw [eq_of_beq h]
  | .str a, .str b, h => by unfold deq at h; rw [sq_eq h]
  | .tup a, .tup b, h => by unfold deq at h; rw [deqs_eq h]
  | .lst a, .lst b, h => by unfold deq at h; rw [deqs_eq h]
theorem deqs_eq : ∀ {a b : List Dv}, deqs a b = true → a = b
  | [], [], _ => rfl
  | a :: l, b :: m, h => by
    unfold deqs at h
    rw [Bool.and_eq_true] at h
    rw [deq_eq h.1, deqs_eq h.2]
end
end G
namespace G
open PySem PySem.Spec PyProof.Rows L2 FD
theorem eqvs_ints : ∀ a b : List Int, PyData.eqvAll (toPys (a.map Dv.int)) (toPys (b.map Dv.int)) = decide (a = b)
  | [], [] => by simp [toPys, PyData.eqvAll]
  | [], b :: B => by simp [toPys, PyData.eqvAll]
  | a :: A, [] => by simp [toPys, PyData.eqvAll]
  | a :: A, b :: B => by
    simp only [List.map_cons, toPys, PyData.eqvAll]
    rw [eqvs_ints A B, Bool.eq_iff_iff]
    simp [toPy, PyData.eqv]
theorem it_ints (a : List Int) : It1 1 (.lst (a.map Dv.int)) := it_lst fun d hd => by
  obtain ⟨x, _, rfl⟩ := List.mem_map.mp hd
  exact it_int
theorem eq_ints (a b : List Int) : eqX (.lst (a.map Dv.int)) (.lst (b.map Dv.int)) = bo (decide (a = b)) := by
  have h1 := (it_ints a).okP (by omega)
  have h2 := (it_ints b).okP (by omega)
  have h3 : PyData.eqv (toPy (.lst (a.map Dv.int))) (toPy (.lst (b.map Dv.int))) = decide (a = b) := by
    show PyData.eqv (.list _) (.list _) = _
    unfold PyData.eqv
    exact eqvs_ints a b
  unfold eqX
  rw [show eqS (.lst (a.map Dv.int)) (.lst (b.map Dv.int)) = none from rfl, h1, h2, h3]
  rfl
theorem intsOf_map : ∀ a : List Int, intsOf (a.map Dv.int) = some a
  | [] => rfl
  | n :: a => by
    show (intsOf (a.map Dv.int)).map (n :: ·) = _
    rw [intsOf_map a]
    rfl
theorem sort_of {a : List Int} (h : a.length < 64) : sortD [.lst (a.map Dv.int)] = some (.ok (.lst ((isortB leI a).map Dv.int))) := by
  show (match intsOf (a.map Dv.int) with | some ns => if ns.length < 64 then (some (.ok (.lst ((isortB leI ns).map Dv.int))) : Option (Rs Dv)) else none | none => _) = _
  rw [intsOf_map]
  dsimp only
  rw [if_pos h]
theorem sort_iff (a : List Int) : a = isortB leI a ↔ a.Pairwise fun x y => leI x y = true := by
  constructor
  · intro h
    rw [h]
    exact isortB_sorted ordI a
  · intro h
    exact sorted_uniq ordI (isortB_perm leI a).symm h (isortB_sorted ordI a)
theorem ri_iff (X : List Note) : riB X = decide (X.map Note.md = isortB leI (X.map Note.md)) := by
  rw [Bool.eq_iff_iff, decide_eq_true_eq, sort_iff]
  unfold riB
  rw [List.all_eq_true]
  constructor
  · intro h
    have adj : ∀ i (hi : i + 1 < X.length), X[i].md ≤ X[i + 1].md := fun i hi => by
      have := h i (List.mem_range.mpr (by omega))
      rw [decide_eq_true_eq, mdAt_of (show i < X.length by omega), mdAt_of hi] at this
      exact this
    have le : ∀ (k i : Nat) (hi : i + k < X.length), (X[i]'(by omega)).md ≤ X[i + k].md := by
      intro k
      induction k with
      | zero => intro i hi; exact Int.le_refl _
      | succ k ih => intro i hi; exact Int.le_trans (ih i (by omega)) (adj (i + k) hi)
    rw [List.pairwise_map, List.pairwise_iff_getElem]
    intro i j hi hj hij
    have := le (j - i) i (by omega)
    simpa [leI, show i + (j - i) = j by omega] using this
  · intro h i hi
    have hi' : i + 1 < X.length := by have := List.mem_range.mp hi; omega
    rw [List.pairwise_map, List.pairwise_iff_getElem] at h
    have := h i (i + 1) (by omega) hi' (by omega)
    rw [decide_eq_true_eq, mdAt_of (show i < X.length by omega), mdAt_of hi']
    simpa [leI] using this
def cL : FnB := (bOr (bNot (fB (f1 (isiD tbTup) (fVar 0)))) (bOr (fB (f2 gtD (fB1 lenD (aCons (fVar 0) aNil)) (fC (.int 20)))) (fB (f2 neX (fComp [] (iSeq (fVar 0)) (some (bNot (fB (fCall F_is_note 1 (aCons (fVar 0) aNil))))) (fVar 0)) (fLst aNil)))))
theorem law_jar_b {X : List Note} (hg : ∀ n ∈ X, Good n) (hl : X.length ≤ 18) : F__law_is_jar [ej X] = bo (isJ X) := by
  have e3 : ¬ (20 < (X.length : Int)) := by omega
  have z2 : fComp [] (iSeq (fVar 0)) (some (bNot (fB (fCall F_is_note 1 (aCons (fVar 0) aNil))))) (fVar 0) [some (ej X), none, none] = some (.ok (.lst [])) := by
    have := comp_some (cs := []) (src := iSeq (fVar 0)) (tst := (bNot (fB (fCall F_is_note 1 (aCons (fVar 0) aNil))))) (elt := fVar 0) (ρ := [some (ej X), none, none]) enc (fun _ => false) enc (src_of rfl) (by omega) fun n hn => ⟨bNot_of (k := true) (fB_of (call1 F_is_note rfl (note_y (hg n hn)))), rfl⟩
    rw [List.filter_eq_nil_iff.mpr (by simp)] at this
    exact this
  have c0 : cL [some (ej X), none, none] = some (.ok false) := by
    refine bOr_of (x := false) (y := false) rfl (bOr_of (x := false) (y := false) (fB_of (k := false) ?_) (fB_of (k := false) ((f2_of z2 (y := .lst []) rfl).trans (by kernel_rfl))))
    show some (Rs.ok (Dv.bl (decide (20 < ((X.map enc).length : Int))))) = _
    rw [List.length_map, decide_eq_false e3]
  have v1 : fCompG 1 [] (iSeq (fVar 0)) (gN 0) none (fTup (aCons (f2 ixD (fVar 0) (fC (.int 0))) (aCons (f2 ixD (fVar 0) (fC (.int 2))) (aCons (f2 ixD (fVar 0) (fC (.int 4))) aNil)))) [some (ej X), none, none] = some (.ok (.lst (X.map ek))) :=
    compG_all enc ek (src_of rfl) (by omega) fun n hn => rfl
  have v2 : fCompG 1 [] (iSeq (fVar 0)) (gN 0) none (f2 ixD (fVar 0) (fC (.int 8))) [some (ej X), some (.lst (X.map ek)), none] = some (.ok (.lst ((X.map Note.md).map Dv.int))) := by
    rw [List.map_map]
    exact compG_all enc (fun n => Dv.int n.md) (src_of rfl) (by omega) fun n hn => rfl
  let E2 : Ev := [some (ej X), some (.lst (X.map ek)), some (.lst ((X.map Note.md).map Dv.int))]
  have r1 : f2 eqX (fB1 lenSetU (aCons (fVar 1) aNil)) (fB1 lenD (aCons (fVar 1) aNil)) E2 = bo (decide ((X.map key).Nodup)) := by
    have e2 : lenSetU [.lst (X.map ek)] = some (.ok (.int (ST.ddk (X.map key)).length)) := by
      show (match keysOf (X.map ek) with | some ks => if ks.length ≤ 20 then (some (.ok (.int (ST.ddk ks).length)) : Option (Rs Dv)) else none | none => none) = _
      rw [keysOf_ek]
      dsimp only
      rw [if_pos (by simp; omega)]
    refine (f2_of ((fB1_of (aCons_of (x := .lst (X.map ek)) rfl aNil_of)).trans e2) (y := .int X.length) (by show some (Rs.ok (Dv.int ((X.map ek).length : Int))) = _; rw [List.length_map])).trans ?_
    show some (Rs.ok (Dv.bl (((ST.ddk (X.map key)).length : Int) == (X.length : Int)))) = _
    rw [← nodup_ddk]
    congr 3
    rw [Bool.eq_iff_iff]
    simp
    omega
  have r2 : f2 eqX (fVar 2) (fB1 sortD (aCons (fVar 2) aNil)) E2 = bo (riB X) := by
    refine (f2_of (x := .lst ((X.map Note.md).map Dv.int)) rfl ((fB1_of (aCons_of (x := .lst ((X.map Note.md).map Dv.int)) rfl aNil_of)).trans (sort_of (by rw [List.length_map]; omega)))).trans ?_
    rw [eq_ints, ri_iff]
  refine run_rt ?_
  show B__law_is_jar [some (ej X), none, none] = _
  have eB : B__law_is_jar = (fSeq (fIfS cL (fRet (fC (.bl false))) (fun ρ => some (.nx ρ))) (fSeq (fSet 1 (fCompG 1 [] (iSeq (fVar 0)) (gN 0) none (fTup (aCons (f2 ixD (fVar 0) (fC (.int 0))) (aCons (f2 ixD (fVar 0) (fC (.int 2))) (aCons (f2 ixD (fVar 0) (fC (.int 4))) aNil)))))) (fSeq (fSet 2 (fCompG 1 [] (iSeq (fVar 0)) (gN 0) none (f2 ixD (fVar 0) (fC (.int 8))))) (fRet (vAnd (f2 eqX (fB1 lenSetU (aCons (fVar 1) aNil)) (fB1 lenD (aCons (fVar 1) aNil))) (f2 eqX (fVar 2) (fB1 sortD (aCons (fVar 2) aNil)))))))) := rfl
  rw [eB]
  rw [fSeq_nx (ifS_skip c0)]
  rw [fSeq_nx (fSet_nx (ρ' := [some (ej X), some (.lst (X.map ek)), none]) v1 rfl)]
  rw [fSeq_nx (fSet_nx (ρ' := E2) v2 rfl)]
  refine rt_of ?_
  unfold isJ
  cases hn : decide ((X.map key).Nodup) with
  | false => rw [hn] at r1; rw [vAnd_F r1, Bool.and_false]
  | true => rw [hn] at r1; rw [vAnd_T r1, r2, Bool.and_true]
def enO (d : Dv) : Option Note → Dv
  | some n => enc n
  | none => d
theorem odd_no {L : List (Option Note)} {d : Dv} (hd : F_is_note [d] = bo false) (hit : It1 5 d) (hn : none ∈ L) (hg : ∀ n, some n ∈ L → Good n) (hl : L.length ≤ 18) : F_is_jar [.tup (L.map (enO d))] = bo false ∧ F__law_is_jar [.tup (L.map (enO d))] = bo false := by
  have hnote : ∀ o ∈ L, ∀ r : Ev, fCall F_is_note 1 (aCons (fVar 0) aNil) (some (enO d o) :: r) = bo o.isSome := by
    intro o ho r
    cases o with
    | none => exact call1 F_is_note rfl hd
    | some n => exact call1 F_is_note rfl (note_y (hg n ho))
  have e3 : ¬ (20 < ((L.map (enO d)).length : Int)) := by rw [List.length_map]; omega
  have hsrc : ∀ r : Ev, iSeq (fVar 0) (some (Dv.tup (L.map (enO d))) :: r) = some (.ok (L.map (enO d))) := fun r => rfl
  constructor
  · have e1 : fComp [] (iSeq (fVar 0)) none (fCall F_is_note 1 (aCons (fVar 0) aNil)) [some (.tup (L.map (enO d)))] = some (.ok (.lst (L.map fun o : Option Note => Dv.bl o.isSome))) :=
      comp_all (enO d) (fun o : Option Note => Dv.bl o.isSome) (hsrc []) (by omega) fun o ho => hnote o ho []
    have e2 : fB1 allD (aCons (fComp [] (iSeq (fVar 0)) none (fCall F_is_note 1 (aCons (fVar 0) aNil))) aNil) [some (.tup (L.map (enO d)))] = bo false := by
      refine (fB1_of (aCons_of e1 aNil_of)).trans ((all_map (fun o : Option Note => o.isSome) _).trans ?_)
      congr 3
      rw [List.all_eq_false]
      exact ⟨none, hn, by simp⟩
    have e0 : (bOr (bNot (fB (f1 (isiD tbTup) (fVar 0)))) (fB (f2 gtD (fB1 lenD (aCons (fVar 0) aNil)) (fC (.int 20))))) [some (.tup (L.map (enO d)))] = some (.ok false) := by
      refine bOr_of (x := false) (y := false) rfl (fB_of (k := false) ?_)
      show some (Rs.ok (Dv.bl (decide (20 < ((L.map (enO d)).length : Int))))) = _
      rw [decide_eq_false e3]
    refine run_rt ?_
    show B_is_jar [some (.tup (L.map (enO d)))] = _
    unfold B_is_jar
    rw [fSeq_nx (ifS_skip e0)]
    rw [fSeq_rt (d := .bl false)]
    rw [ifS_T (bNot_of (k := false) (fB_of e2))]
    rfl
  · have z2 : fComp [] (iSeq (fVar 0)) (some (bNot (fB (fCall F_is_note 1 (aCons (fVar 0) aNil))))) (fVar 0) [some (.tup (L.map (enO d))), none, none] = some (.ok (.lst ((L.filter fun o => !o.isSome).map (enO d)))) :=
      comp_some (cs := []) (enO d) (fun o => !o.isSome) (enO d) (hsrc _) (by omega) fun o ho => ⟨bNot_of (fB_of (hnote o ho [])), rfl⟩
    have hne : neX (.lst ((L.filter fun o => !o.isSome).map (enO d))) (.lst []) = bo true := by
      have i1 : It1 6 (.lst ((L.filter fun o => !o.isSome).map (enO d))) := it_lst fun x hx => by
        obtain ⟨o, ho, rfl⟩ := List.mem_map.mp hx
        cases o with
        | none => exact hit
        | some n => simp at ho
      have i2 := i1.okP (by omega)
      have i3 : okP (.lst []) = true := by kernel_rfl
      have hm : none ∈ L.filter fun o => !o.isSome := List.mem_filter.mpr ⟨hn, rfl⟩
      obtain ⟨y, r, ey⟩ : ∃ y r, (L.filter fun o => !o.isSome) = y :: r := by
        cases hL : (L.filter fun o => !o.isSome) with
        | nil => rw [hL] at hm; simp at hm
        | cons y r => exact ⟨y, r, rfl⟩
      unfold neX
      rw [show eqS (.lst ((L.filter fun o => !o.isSome).map (enO d))) (.lst []) = none from rfl, i2, i3, ey]
      simp [toPy, toPys, PyData.eqv, PyData.eqvAll]
    have c0 : cL [some (.tup (L.map (enO d))), none, none] = some (.ok true) := by
      refine bOr_of (x := false) (y := true) rfl (bOr_of (x := false) (y := true) (fB_of (k := false) ?_) (fB_of ((f2_of z2 (y := .lst []) rfl).trans hne)))
      show some (Rs.ok (Dv.bl (decide (20 < ((L.map (enO d)).length : Int))))) = _
      rw [decide_eq_false e3]
    refine run_rt ?_
    show B__law_is_jar [some (.tup (L.map (enO d))), none, none] = _
    show fSeq (fIfS cL (fRet (fC (.bl false))) (fun ρ => some (.nx ρ))) _ [some (.tup (L.map (enO d))), none, none] = _
    rw [fSeq_rt (d := .bl false)]
    rw [ifS_T c0]
    rfl
theorem nj_y {A : List Note} (J : Jar A) : FX_need_jar [ej A] = some (.ok .non) := by simp [FX_need_jar, runE, BX_need_jar, fSeq, sq, fIfS, fRet, fRetN, fDrop, fSet, bndS, bnd, bOr, bAnd, bNot, fB, toB, fCall, fCallE, aCons, aNil, fVar, fC, f1, f2, ixD, atD, vOr, vAnd, vNot, fIf, fTup, fLst, fB1, fM, fRaise, fNever, isN, notN, isiD, tbBool, tbTup, tbStr, tbInt, jar_y J]
theorem nj_n {d : Dv} (h : F_is_jar [d] = bo false) : FX_need_jar [d] = some (.exc 5) := by simp [FX_need_jar, runE, BX_need_jar, fSeq, sq, fIfS, fRet, fRetN, fDrop, fSet, bndS, bnd, bOr, bAnd, bNot, fB, toB, fCall, fCallE, aCons, aNil, fVar, fC, f1, f2, ixD, atD, vOr, vAnd, vNot, fIf, fTup, fLst, fB1, fM, fRaise, fNever, isN, notN, isiD, tbBool, tbTup, tbStr, tbInt, h]
theorem told_n {d : Dv} (h : F_is_jar [d] = bo false) : F__law_told [.int 0, d, .non] = some (.ok (.tup [.str "refused", .int 5])) ∧ F__law_told [.int 1, d, .non] = some (.ok (.tup [.str "refused", .int 5])) := by
  have e1 := nj_n h
  have e2 : FX_swept [d, .non] = some (.exc 5) := by simp [FX_swept, runE, BX_swept, fSeq, sq, fIfS, fRet, fRetN, fDrop, fSet, bndS, bnd, bOr, bAnd, bNot, fB, toB, fCall, fCallE, aCons, aNil, fVar, fC, f1, f2, ixD, atD, vOr, vAnd, vNot, fIf, fTup, fLst, fB1, fM, fRaise, fNever, isN, notN, isiD, tbBool, tbTup, tbStr, tbInt, e1]
  have e3 : FX_forgotten [d, .non] = some (.exc 5) := by simp [FX_forgotten, runE, BX_forgotten, fSeq, sq, fIfS, fRet, fRetN, fDrop, fSet, bndS, bnd, bOr, bAnd, bNot, fB, toB, fCall, fCallE, aCons, aNil, fVar, fC, f1, f2, ixD, atD, vOr, vAnd, vNot, fIf, fTup, fLst, fB1, fM, fRaise, fNever, isN, notN, isiD, tbBool, tbTup, tbStr, tbInt, e1]
  constructor
  · refine run_rt ?_
    show B__law_told [some (.int 0), some d, some .non, none] = _
    unfold B__law_told fTry
    rw [show (fIf (fB (f2 eqX (fVar 0) (fC (.int 0)))) (fCallE FX_swept 2 (aCons (fVar 1) (aCons (fVar 2) aNil))) (fCallE FX_forgotten 2 (aCons (fVar 1) (aCons (fVar 2) aNil)))) [some (.int 0), some d, some .non, none] = some (.exc 5) from e2]
    kernel_rfl
  · refine run_rt ?_
    show B__law_told [some (.int 1), some d, some .non, none] = _
    unfold B__law_told fTry
    rw [show (fIf (fB (f2 eqX (fVar 0) (fC (.int 0)))) (fCallE FX_swept 2 (aCons (fVar 1) (aCons (fVar 2) aNil))) (fCallE FX_forgotten 2 (aCons (fVar 1) (aCons (fVar 2) aNil)))) [some (.int 1), some d, some .non, none] = some (.exc 5) from e3]
    kernel_rfl
theorem ended_of (n : Note) (k : Int) : F_has_ended [enc n, .int k] = bo (ended n k) := by
  unfold ended enc
  cases n.ends <;> simp [F_has_ended, runF, B_has_ended, fSeq, sq, fIfS, fRet, fRetN, fDrop, fSet, bndS, bnd, bOr, bAnd, bNot, fB, toB, fCall, fCallE, aCons, aNil, fVar, fC, f1, f2, ixD, atD, vOr, vAnd, vNot, fIf, fTup, fLst, fB1, fM, fRaise, fNever, isN, notN, isiD, tbBool, tbTup, tbStr, tbInt, eO, leX]
theorem without_of {js : List Note} (hl : js.length ≤ 18) (now : Int) : F_without_ended [ej js, .int now] = some (.ok (ej (js.filter fun n => !ended n now))) := by
  have e1 := comp_some (cs := [("now", 1)]) (src := iSeq (fVar 0)) (tst := (bNot (fB (fCall F_has_ended 2 (aCons (fVar 0) (aCons (fVar 1) aNil)))))) (elt := fVar 0) (ρ := [some (ej js), some (.int now)]) enc (fun n => !ended n now) enc (src_of rfl) (by omega) fun n hn => ⟨bNot_of (fB_of (call2 F_has_ended rfl rfl (ended_of n now))), rfl⟩
  refine run_rt (d := ej (js.filter fun n => !ended n now)) ?_
  show B_without_ended [some (ej js), some (.int now)] = _
  unfold B_without_ended
  refine fRet_rt ?_
  rw [fB1_of (aCons_of e1 aNil_of)]
  rfl
theorem told_0 {A : List Note} (J : Jar A) {now : Int} (h0 : 0 ≤ now) (h1 : now ≤ 9999) : F__law_told [.int 0, ej A, .int now] = some (.ok (ej (A.filter fun n => !ended n now))) := by
  have e2 : FX_need_moment [.int now] = some (.ok .non) := by simp [FX_need_moment, runE, BX_need_moment, fSeq, sq, fIfS, fRet, fRetN, fDrop, fSet, bndS, bnd, bOr, bAnd, bNot, fB, toB, fCall, fCallE, aCons, aNil, fVar, fC, f1, f2, ixD, atD, vOr, vAnd, vNot, fIf, fTup, fLst, fB1, fM, fRaise, fNever, isN, notN, isiD, tbBool, tbTup, tbStr, tbInt, mom_y h0 h1]
  have e3 : FX_swept [ej A, .int now] = some (.ok (ej (A.filter fun n => !ended n now))) := by simp [FX_swept, runE, BX_swept, fSeq, sq, fIfS, fRet, fRetN, fDrop, fSet, bndS, bnd, bOr, bAnd, bNot, fB, toB, fCall, fCallE, aCons, aNil, fVar, fC, f1, f2, ixD, atD, vOr, vAnd, vNot, fIf, fTup, fLst, fB1, fM, fRaise, fNever, isN, notN, isiD, tbBool, tbTup, tbStr, tbInt, nj_y J, e2, without_of J.l now]
  refine run_rt ?_
  show B__law_told [some (.int 0), some (ej A), some (.int now), none] = _
  unfold B__law_told fTry
  rw [show (fIf (fB (f2 eqX (fVar 0) (fC (.int 0)))) (fCallE FX_swept 2 (aCons (fVar 1) (aCons (fVar 2) aNil))) (fCallE FX_forgotten 2 (aCons (fVar 1) (aCons (fVar 2) aNil)))) [some (.int 0), some (ej A), some (.int now), none] = some (.ok (ej (A.filter fun n => !ended n now))) from e3]
theorem told_0n {A : List Note} (J : Jar A) {d : Dv} (h : F_is_moment [d] = bo false) : F__law_told [.int 0, ej A, d] = some (.ok (.tup [.str "refused", .int 6])) := by
  have e2 : FX_need_moment [d] = some (.exc 6) := by simp [FX_need_moment, runE, BX_need_moment, fSeq, sq, fIfS, fRet, fRetN, fDrop, fSet, bndS, bnd, bOr, bAnd, bNot, fB, toB, fCall, fCallE, aCons, aNil, fVar, fC, f1, f2, ixD, atD, vOr, vAnd, vNot, fIf, fTup, fLst, fB1, fM, fRaise, fNever, isN, notN, isiD, tbBool, tbTup, tbStr, tbInt, h]
  have e3 : FX_swept [ej A, d] = some (.exc 6) := by simp [FX_swept, runE, BX_swept, fSeq, sq, fIfS, fRet, fRetN, fDrop, fSet, bndS, bnd, bOr, bAnd, bNot, fB, toB, fCall, fCallE, aCons, aNil, fVar, fC, f1, f2, ixD, atD, vOr, vAnd, vNot, fIf, fTup, fLst, fB1, fM, fRaise, fNever, isN, notN, isiD, tbBool, tbTup, tbStr, tbInt, nj_y J, e2]
  refine run_rt ?_
  show B__law_told [some (.int 0), some (ej A), some d, none] = _
  unfold B__law_told fTry
  rw [show (fIf (fB (f2 eqX (fVar 0) (fC (.int 0)))) (fCallE FX_swept 2 (aCons (fVar 1) (aCons (fVar 2) aNil))) (fCallE FX_forgotten 2 (aCons (fVar 1) (aCons (fVar 2) aNil)))) [some (.int 0), some (ej A), some d, none] = some (.exc 6) from e3]
  kernel_rfl
theorem told_1n {A : List Note} (J : Jar A) {d : Dv} (h : F_is_name [d] = bo false) : F__law_told [.int 1, ej A, d] = some (.ok (.tup [.str "refused", .int 0])) := by
  have e2 : FX_need_name [d] = some (.exc 0) := by simp [FX_need_name, runE, BX_need_name, fSeq, sq, fIfS, fRet, fRetN, fDrop, fSet, bndS, bnd, bOr, bAnd, bNot, fB, toB, fCall, fCallE, aCons, aNil, fVar, fC, f1, f2, ixD, atD, vOr, vAnd, vNot, fIf, fTup, fLst, fB1, fM, fRaise, fNever, isN, notN, isiD, tbBool, tbTup, tbStr, tbInt, h]
  have e3 : FX_forgotten [ej A, d] = some (.exc 0) := by simp [FX_forgotten, runE, BX_forgotten, fSeq, sq, fIfS, fRet, fRetN, fDrop, fSet, bndS, bnd, bOr, bAnd, bNot, fB, toB, fCall, fCallE, aCons, aNil, fVar, fC, f1, f2, ixD, atD, vOr, vAnd, vNot, fIf, fTup, fLst, fB1, fM, fRaise, fNever, isN, notN, isiD, tbBool, tbTup, tbStr, tbInt, nj_y J, e2]
  refine run_rt ?_
  show B__law_told [some (.int 1), some (ej A), some d, none] = _
  unfold B__law_told fTry
  rw [show (fIf (fB (f2 eqX (fVar 0) (fC (.int 0)))) (fCallE FX_swept 2 (aCons (fVar 1) (aCons (fVar 2) aNil))) (fCallE FX_forgotten 2 (aCons (fVar 1) (aCons (fVar 2) aNil)))) [some (.int 1), some (ej A), some d, none] = some (.exc 0) from e3]
  kernel_rfl
def okW (p q : Str) : Bool := match F_lies_within [.str p, .str q], F__law_within [.str p, .str q] with
  | some (.ok (.bl a)), some (.ok (.bl b)) => a == b
  | _, _ => false
theorem wi_all : (En.all fun p => menu.all fun q => okW p q) = true := by kernel_rfl
theorem wi_b {p q : Str} (h : p ∈ En) (h' : q ∈ menu) : ∃ k, F_lies_within [.str p, .str q] = bo k ∧ F__law_within [.str p, .str q] = bo k := by
  have z := all_mem (p := fun q => okW p q) (all_mem (p := fun p => menu.all fun q => okW p q) wi_all h) h'
  unfold okW at z
  split at z
  · rename_i a b e1 e2
    exact ⟨a, e1, by rw [e2, eq_of_beq z]⟩
  · cases z
def wiB (p q : Str) : Bool := match F_lies_within [.str p, .str q] with
  | some (.ok (.bl a)) => a
  | _ => false
theorem wi_of {p q : Str} (h : p ∈ En) (h' : q ∈ menu) : F_lies_within [.str p, .str q] = bo (wiB p q) ∧ F__law_within [.str p, .str q] = bo (wiB p q) := by
  obtain ⟨k, e1, e2⟩ := wi_b h h'
  unfold wiB
  rw [e1, e2]
  exact ⟨rfl, rfl⟩
theorem told_1 {A : List Note} (J : Jar A) {q : Str} (h : q ∈ menu) : F__law_told [.int 1, ej A, .str q] = some (.ok (ej (A.filter fun n => !wiB n.house q))) := by
  have e2 : FX_need_name [.str q] = some (.ok .non) := by simp [FX_need_name, runE, BX_need_name, fSeq, sq, fIfS, fRet, fRetN, fDrop, fSet, bndS, bnd, bOr, bAnd, bNot, fB, toB, fCall, fCallE, aCons, aNil, fVar, fC, f1, f2, ixD, atD, vOr, vAnd, vNot, fIf, fTup, fLst, fB1, fM, fRaise, fNever, isN, notN, isiD, tbBool, tbTup, tbStr, tbInt, en_y (me h)]
  have hl := J.l
  have e1 := comp_some (cs := [("house", 1)]) (src := iSeq (fVar 0)) (tst := (bNot (fB (fCall F_lies_within 2 (aCons (f2 ixD (fVar 0) (fC (.int 2))) (aCons (fVar 1) aNil)))))) (elt := fVar 0) (ρ := [some (ej A), some (.str q)]) enc (fun n => !wiB n.house q) enc (src_of rfl) (by omega) fun n hn => ⟨bNot_of (fB_of (call2 F_lies_within rfl rfl (wi_of (J.g n hn).house h).1)), rfl⟩
  have e3 : FX_forgotten [ej A, .str q] = some (.ok (ej (A.filter fun n => !wiB n.house q))) := by
    have hb : BX_forgotten [some (ej A), some (.str q)] = some (.rt (ej (A.filter fun n => !wiB n.house q))) := by
      unfold BX_forgotten
      rw [fSeq_nx (fDrop_nx (d := .non) (show fCallE FX_need_jar 1 (aCons (fVar 0) aNil) [some (ej A), some (.str q)] = some (.ok .non) from nj_y J))]
      rw [fSeq_nx (fDrop_nx (d := .non) (show fCallE FX_need_name 1 (aCons (fVar 1) aNil) [some (ej A), some (.str q)] = some (.ok .non) from e2))]
      refine rt_of ?_
      rw [fB1_of (aCons_of e1 aNil_of)]
      rfl
    show (match BX_forgotten [some (ej A), some (.str q)] with | some (.nx _) => _ | some (.rt d) => _ | some (.exc c) => _ | none => _) = _
    rw [hb]
  refine run_rt ?_
  show B__law_told [some (.int 1), some (ej A), some (.str q), none] = _
  unfold B__law_told fTry
  rw [show (fIf (fB (f2 eqX (fVar 0) (fC (.int 0)))) (fCallE FX_swept 2 (aCons (fVar 1) (aCons (fVar 2) aNil))) (fCallE FX_forgotten 2 (aCons (fVar 1) (aCons (fVar 2) aNil)))) [some (.int 1), some (ej A), some (.str q), none] = some (.ok (ej (A.filter fun n => !wiB n.house q))) from e3]
end G
namespace G
open PySem PySem.Spec PyProof.Rows L2 FD
def EW (ns : List Int) (J M : Dv) (a3 a4 a5 a6 a7 a8 a9 a10 a11 a12 a13 a14 : Option Dv) : Ev := [some (.scr ns), some J, some M, a3, a4, a5, a6, a7, a8, a9, a10, a11, a12, a13, a14]
def Th (d : Dv) : Prop := ∃ k, F_is_jar [d] = bo k ∧ F__law_is_jar [d] = bo k
theorem body_0 {ns : List Int} {J M d : Dv} {a3 a4 a5 : Option Dv} (h : Th d) : ∃ k, b_law_0 (EW ns J M a3 a4 a5 (some d) none none none none none none none none) = some (.nx (EW ns J M a3 a4 a5 (some d) (some (.bl k)) none none none none none none none)) := by
  obtain ⟨k, h1, h2⟩ := h
  refine ⟨k, ?_⟩
  have v5 : v_law_5 (EW ns J M a3 a4 a5 (some d) none none none none none none none none) = bo k := call1 F_is_jar rfl h1
  have c0 : c_law_0 (EW ns J M a3 a4 a5 (some d) (some (.bl k)) none none none none none none none) = some (.ok false) := by
    refine bOr_of (x := false) (y := false) rfl (fB_of ((f2_of (x := .bl k) rfl (call1 F__law_is_jar rfl h2)).trans ?_))
    cases k <;> rfl
  have c1 : c_law_1 (EW ns J M a3 a4 a5 (some d) (some (.bl k)) none none none none none none none) = some (.ok false) := by
    cases k with
    | true => exact bAnd_F (bNot_of (k := true) rfl)
    | false =>
      refine (bAnd_T (bNot_of (k := false) rfl)).trans ?_
      obtain ⟨t0, t1⟩ := told_n h1
      have hr : (fun ρ => bnd ((aCons (fC (.int 2)) aNil) ρ) rng1) (EW ns J M a3 a4 a5 (some d) (some (.bl false)) none none none none none none none) = some (.ok (([0, 1] : List Int).map Dv.int)) := by
        show rng1 [.int ((2 : Nat) : Int)] = _
        rw [rng1_n (by omega)]
        rfl
      have e := comp_all (cs := [("_law_thing", 6)]) (src := (fun ρ => bnd ((aCons (fC (.int 2)) aNil) ρ) rng1)) (elt := (fCall F__law_told 3 (aCons (fVar 0) (aCons (fVar 1) (aCons (fC .non) aNil))))) (ρ := EW ns J M a3 a4 a5 (some d) (some (.bl false)) none none none none none none none) Dv.int (fun _ => Dv.tup [.str "refused", .int 5]) hr (by simp) fun i hi => by
        simp only [List.mem_cons, List.not_mem_nil, or_false] at hi
        rcases hi with rfl | rfl
        · exact call3 F__law_told (a := .int 0) (b := d) (c := .non) rfl rfl rfl t0
        · exact call3 F__law_told (a := .int 1) (b := d) (c := .non) rfl rfl rfl t1
      refine fB_of ((f2_of e (y := .lst [.tup [.str "refused", .int 5], .tup [.str "refused", .int 5]]) (by kernel_rfl)).trans ?_)
      kernel_rfl
  unfold b_law_0
  rw [fSeq_nx (fSet_nx (ρ' := EW ns J M a3 a4 a5 (some d) (some (.bl k)) none none none none none none none) v5 rfl)]
  rw [fSeq_nx (ifS_skip c0)]
  rw [ifS_skip c1]
def plc (n : Note) : Nat → List Note → List Int
  | _, [] => []
  | k, a :: l => if key a = key n then (k : Int) :: plc n (k + 1) l else plc n (k + 1) l
def tP : FnB := (fB (f2 eqX (fTup (aCons (f2 ixD (fVar 1) (fC (.int 0))) (aCons (f2 ixD (fVar 1) (fC (.int 2))) (aCons (f2 ixD (fVar 1) (fC (.int 4))) aNil)))) (fTup (aCons (f2 ixD (fVar 2) (fC (.int 0))) (aCons (f2 ixD (fVar 2) (fC (.int 2))) (aCons (f2 ixD (fVar 2) (fC (.int 4))) aNil))))))
theorem map_plc {n : Note} (gn : Good n) : ∀ (l : List Note) (k : Nat), (∀ a ∈ l, Good a) → mapG (gP 0 1) (some tP) (fVar 0) [none, none, some (enc n)] (enumL k (l.map enc)) = some ((plc n k l).map Dv.int)
  | [], _, _ => rfl
  | a :: l, k, hg => by
    have ih := map_plc gn l (k + 1) fun b hb => hg b (List.mem_cons_of_mem _ hb)
    have ht : tP [some (.int k), some (enc a), some (enc n)] = some (.ok (decide (key a = key n))) := fB_of ((f2_of (x := ek a) (y := ek n) rfl rfl).trans (eq_ek (hg a List.mem_cons_self) gn).1)
    show (match tP [some (.int k), some (enc a), some (enc n)] with
      | some (.ok true) => (match mapG (gP 0 1) (some tP) (fVar 0) [none, none, some (enc n)] (enumL (k + 1) (l.map enc)) with | some ys => some (Dv.int k :: ys) | none => none)
      | some (.ok false) => mapG (gP 0 1) (some tP) (fVar 0) [none, none, some (enc n)] (enumL (k + 1) (l.map enc))
      | _ => none) = _
    rw [ht, ih, show plc n k (a :: l) = if key a = key n then (k : Int) :: plc n (k + 1) l else plc n (k + 1) l from rfl]
    by_cases hk : key a = key n
    · rw [decide_eq_true hk, if_pos hk]; rfl
    · rw [decide_eq_false hk, if_neg hk]
theorem plc_len (n : Note) : ∀ (l : List Note) (k : Nat), (plc n k l).length ≤ l.length
  | [], _ => Nat.le_refl _
  | a :: l, k => by
    have := plc_len n l (k + 1)
    unfold plc
    split <;> simp <;> omega
theorem plc_nil {n : Note} : ∀ (l : List Note) (k : Nat), plc n k l = [] → l.filter (fun o => decide (key o = key n)) = []
  | [], _, _ => rfl
  | a :: l, k, h => by
    unfold plc at h
    split at h
    · cases h
    · rename_i hk
      rw [List.filter_cons, if_neg (by simpa using hk)]
      exact plc_nil l (k + 1) h
theorem plc_cons {n : Note} : ∀ (l : List Note) (k : Nat) (p : Int) (ps : List Int), plc n k l = p :: ps → ∃ i, ∃ hi : i < l.length, p = ((k + i : Nat) : Int) ∧ key l[i] = key n ∧ ∃ r, l.filter (fun o => decide (key o = key n)) = l[i] :: r
  | [], _, _, _, h => by cases h
  | a :: l, k, p, ps, h => by
    unfold plc at h
    split at h
    · rename_i hk
      cases h
      refine ⟨0, by simp, by simp, hk, l.filter (fun o => decide (key o = key n)), ?_⟩
      rw [List.filter_cons, if_pos (by simpa using hk)]
      rfl
    · rename_i hk
      obtain ⟨i, hi, e1, e2, r, e3⟩ := plc_cons l (k + 1) p ps h
      refine ⟨i + 1, by simpa using hi, by rw [e1]; congr 1; omega, by simpa using e2, r, ?_⟩
      rw [List.filter_cons, if_neg (by simpa using hk), e3]
      simp
theorem set_map {A : List Note} {n y : Note} {i : Nat} (hi : i < A.length) (hk : key A[i] = key n) (hn : (A.map key).Nodup) : A.map (fun x => if key x = key n then y else x) = A.set i y := by
  apply List.ext_getElem?
  intro j
  by_cases hj : j < A.length
  · rw [List.getElem?_map, List.getElem?_eq_getElem hj, List.getElem?_set]
    by_cases hij : i = j
    · subst hij
      simp [hk, hi]
    · have : key A[j] ≠ key n := fun e => hij (by
        have h1 : i < (A.map key).length := by simpa using hi
        have h2 : j < (A.map key).length := by simpa using hj
        refine (List.getElem_inj (h₀ := h1) (h₁ := h2) hn).mp ?_
        simp [hk, e])
      simp [hij, this, hj]
  · simp [hj]
def lt (M : Int) (n : Note) : Note := { n with md := M + 1, us := M + 2 }
theorem lt_good {M : Int} {n : Note} (g : Good n) (h0 : 0 ≤ M) (h1 : M ≤ 30) : Good (lt M n) := ⟨g.nm, g.w, g.house, g.path, g.R, g.ends, by show 0 ≤ M + 1; omega, by show M + 1 ≤ M + 2; omega, by show M + 2 ≤ 39; omega⟩
theorem body_1 {ns : List Int} {A : List Note} {M : Dv} {a3 a4 a5 a8 a9 : Option Dv} {L : Int} {n : Note} (J : Jar A) (gn : Good n) (h0 : 0 ≤ L) (h1 : L ≤ 30) (hM : ∀ a ∈ A, a.md ≤ L) : ∃ ρ', b_law_1 (EW ns (ej A) M a3 a4 a5 none none a8 a9 (some (.int L)) (some (enc n)) none none none) = some (.nx ρ') ∧ fgt [11, 12, 13, 14] ρ' = EW ns (ej A) M a3 a4 a5 none none a8 a9 (some (.int L)) none none none none := by
  have hl := J.l
  have gl := lt_good gn h0 h1
  have v9 : v_law_9 (EW ns (ej A) M a3 a4 a5 none none a8 a9 (some (.int L)) (some (enc n)) none none none) = some (.ok (enc (lt L n))) := by kernel_rfl
  let E0 : Ev := EW ns (ej A) M a3 a4 a5 none none a8 a9 (some (.int L)) (some (enc n)) (some (enc (lt L n))) none none
  have v10 : v_law_10 E0 = some (.ok (.lst (A.map enc))) := compG_all enc enc (src_of rfl) (by omega) fun a ha => rfl
  have v11 : v_law_11 E0 = some (.ok (.lst ((plc n 0 A).map Dv.int))) := by
    have hs : (fun ρ => bnd ((aCons (fVar 1) aNil) ρ) enumT) E0 = some (.ok (enumL 0 (A.map enc))) := rfl
    have hm := map_plc gn A 0 J.g
    have hlen : ∀ (l : List Dv) (k : Nat), (enumL k l).length = l.length := by
      intro l
      induction l with
      | nil => intro k; rfl
      | cons a l ih => intro k; show (enumL (k + 1) l).length + 1 = _; rw [ih]; rfl
    show bnd ((fun ρ => bnd ((aCons (fVar 1) aNil) ρ) enumT) E0) (fun ds => match mapG (gP 0 1) (some tP) (fVar 0) [none, none, some (enc n)] ds with
      | some ys => if ys.length ≤ 100000 ∧ ds.length ≤ 100000 then some (Rs.ok (Dv.lst ys)) else none
      | none => none) = _
    rw [hs]
    show (match mapG (gP 0 1) (some tP) (fVar 0) [none, none, some (enc n)] (enumL 0 (A.map enc)) with
      | some ys => if ys.length ≤ 100000 ∧ (enumL 0 (A.map enc)).length ≤ 100000 then some (Rs.ok (Dv.lst ys)) else none
      | none => none) = _
    rw [hm]
    dsimp only
    have := plc_len n A 0
    rw [if_pos ⟨by rw [List.length_map]; omega, by rw [hlen, List.length_map]; omega⟩]
  let E1 : Ev := EW ns (ej A) M a3 a4 a5 none none a8 a9 (some (.int L)) (some (enc n)) (some (enc (lt L n))) none (some (.lst ((plc n 0 A).map Dv.int)))
  have cn : fB (f2 eqX (fVar 14) (fLst aNil)) E1 = some (.ok (decide (plc n 0 A = []))) := fB_of ((f2_of (x := .lst ((plc n 0 A).map Dv.int)) (y := .lst (([] : List Int).map Dv.int)) rfl rfl).trans (eq_ints _ _))
  have hput := put_of (n := lt L n) J.g gl hl
  have hmid : ∃ D : List Note, (∀ a ∈ D, Good a) ∧ D.length ≤ 100 ∧ putJ A (lt L n) = D ∧ (oIf (fB (f2 eqX (fVar 14) (fLst aNil))) (oApp (fVar 12)) (oStore (f2 ixD (fVar 14) (fC (.int 0))) (f2 addT (fCutT (fVar 12) oNone (oSome (fC (.int 8)))) (fTup (aCons (f2 ixD (f2 ixD (fVar 1) (f2 ixD (fVar 14) (fC (.int 0)))) (fC (.int 8))) (aCons (f2 ixD (fVar 12) (fC (.int 9))) aNil)))))) E1 (A.map enc) = some (.nx E1 (D.map enc)) := by
    cases hp : plc n 0 A with
    | nil =>
      refine ⟨A ++ [lt L n], fun a ha => ?_, by simp; omega, ?_, ?_⟩
      · rcases List.mem_append.mp ha with h | h
        · exact J.g a h
        · rw [List.mem_singleton.mp h]; exact gl
      · unfold putJ
        have : A.filter (fun o => decide (key o = key (lt L n))) = [] := plc_nil (n := n) A 0 hp
        rw [this]
      · rw [hp, decide_eq_true rfl] at cn
        unfold oIf
        rw [cn]
        show oApp (fVar 12) E1 (A.map enc) = _
        unfold oApp
        rw [if_pos (by simp; omega)]
        show some (Fo.nx E1 (A.map enc ++ [enc (lt L n)])) = _
        simp
    | cons p ps =>
      obtain ⟨i, hi, e1, e2, r, e3⟩ := plc_cons A 0 p ps hp
      rw [Nat.zero_add] at e1
      let y : Note := { lt L n with md := A[i].md }
      have gi := J.g A[i] (List.getElem_mem hi)
      have gy : Good y := ⟨gl.nm, gl.w, gl.house, gl.path, gl.R, gl.ends, gi.mk0, by
        have := hM A[i] (List.getElem_mem hi)
        show A[i].md ≤ L + 2
        omega, gl.us⟩
      refine ⟨A.set i y, fun a ha => ?_, by simp; omega, ?_, ?_⟩
      · rcases List.mem_or_eq_of_mem_set ha with h | rfl
        · exact J.g a h
        · exact gy
      · unfold putJ
        have : A.filter (fun o => decide (key o = key (lt L n))) = A[i] :: r := e3
        rw [this]
        exact set_map (n := lt L n) hi e2 J.k
      · rw [hp, decide_eq_false (by simp)] at cn
        unfold oIf
        rw [cn]
        show oStore _ _ E1 (A.map enc) = _
        have q1 : f2 ixD (fVar 14) (fC (.int 0)) E1 = some (.ok (.int (i : Int))) := by
          show ixD (.lst ((plc n 0 A).map Dv.int)) (.int 0) = _
          rw [hp, e1]
          rfl
        have q2 : f2 ixD (fVar 1) (f2 ixD (fVar 14) (fC (.int 0))) E1 = some (.ok (enc A[i])) := (f2_of (x := ej A) rfl q1).trans (ix_ej hi)
        have q3 : f2 ixD (f2 ixD (fVar 1) (f2 ixD (fVar 14) (fC (.int 0)))) (fC (.int 8)) E1 = some (.ok (.int A[i].md)) := (f2_of q2 rfl).trans (ix_md _)
        have q4 : f2 addT (fCutT (fVar 12) oNone (oSome (fC (.int 8)))) (fTup (aCons (f2 ixD (f2 ixD (fVar 1) (f2 ixD (fVar 14) (fC (.int 0)))) (fC (.int 8))) (aCons (f2 ixD (fVar 12) (fC (.int 9))) aNil))) E1 = some (.ok (enc y)) := by
          refine (f2_of (x := .tup [.str n.nm, .str n.w, .str n.house, .bl n.ex, .str n.path, eO n.ends, .bl n.S, .str n.R]) (by kernel_rfl) (fTup_of (aCons_of q3 (aCons_of (x := .int (L + 2)) rfl aNil_of)) (by simp))).trans ?_
          kernel_rfl
        unfold oStore
        rw [q4]
        show bndO (f2 ixD (fVar 14) (fC (.int 0)) E1) (fun k => match k with
          | .int k => if 0 ≤ k ∧ k < ((A.map enc).length : Int) then some (Fo.nx E1 ((A.map enc).set k.toNat (enc y))) else none
          | _ => none) = _
        rw [q1]
        show (if 0 ≤ (i : Int) ∧ (i : Int) < ((A.map enc).length : Int) then some (Fo.nx E1 ((A.map enc).set (i : Int).toNat (enc y))) else none) = _
        rw [if_pos ⟨by omega, by rw [List.length_map]; omega⟩, List.map_set]
        rfl
  obtain ⟨D, gD, lD, eD, hD⟩ := hmid
  rw [eD] at hput
  have hif : oIfR 13 (fB (f2 neX (fCall F_put 2 (aCons (fVar 1) (aCons (fVar 12) aNil))) (fB1 tupleD (aCons (fVar 13) aNil)))) (oRet 13 (fC (.bl false))) oNil E1 (D.map enc) = some (.nx E1 (D.map enc)) := by
    have z : fB (f2 neX (fCall F_put 2 (aCons (fVar 1) (aCons (fVar 12) aNil))) (fB1 tupleD (aCons (fVar 13) aNil))) (E1.set 13 (some (.lst (D.map enc)))) = some (.ok false) := by
      refine fB_of ((f2_of (call2 F_put rfl rfl hput) (y := ej D) rfl).trans ?_)
      exact ne_self ((it_ej gD).okP (by omega)) (it_ej gD).p
    unfold oIfR
    rw [z]
    rfl
  refine ⟨E1.set 13 (some (.lst (D.map enc))), ?_, rfl⟩
  unfold b_law_1
  rw [fSeq_nx (fSet_nx (ρ' := E0) v9 rfl)]
  unfold fOwnC
  rw [v10]
  have hrest : (oSeq (oSet 14 v_law_11) (oSeq (oIf (fB (f2 eqX (fVar 14) (fLst aNil))) (oApp (fVar 12)) (oStore (f2 ixD (fVar 14) (fC (.int 0))) (f2 addT (fCutT (fVar 12) oNone (oSome (fC (.int 8)))) (fTup (aCons (f2 ixD (f2 ixD (fVar 1) (f2 ixD (fVar 14) (fC (.int 0)))) (fC (.int 8))) (aCons (f2 ixD (fVar 12) (fC (.int 9))) aNil)))))) (oIfR 13 (fB (f2 neX (fCall F_put 2 (aCons (fVar 1) (aCons (fVar 12) aNil))) (fB1 tupleD (aCons (fVar 13) aNil)))) (oRet 13 (fC (.bl false))) oNil))) E0 (A.map enc) = some (.nx E1 (D.map enc)) := by
    rw [oSeq_nx (oSet_nx (ρ' := E1) v11 rfl)]
    rw [oSeq_nx hD]
    exact hif
  show (match (oSeq (oSet 14 v_law_11) _) E0 (A.map enc) with
    | some (.nx ρ' ds') => some (Fl.nx (ρ'.set 13 (some (.lst ds'))))
    | some (.rt d) => some (.rt d)
    | none => none) = _
  rw [hrest]
end G
namespace G
open PySem PySem.Spec PyProof.Rows L2 FD
def manyD (n : Nat) : Dv := .tup ((List.range n).map fun k : Nat => .tup [.str "n", .str "", .str "a.b", .bl false, .str (Str.ofString "/x" ++ is (k : Int)), .non, .bl false, .str "any", .int 1, .int 2])
theorem many_of (n : Nat) (h : n ≤ 100) : F__law_many [.int n] = some (.ok (manyD n)) := by
  have hr : (fun ρ => bnd ((aCons (fVar 0) aNil) ρ) rng1) [some (.int n)] = some (.ok ((List.range n).map fun k : Nat => Dv.int (k : Int))) := by
    refine (bnd_ok (k := rng1) (show (aCons (fVar 0) aNil) [some (.int n)] = some (.ok [.int (n : Int)]) from rfl)).trans ?_
    rw [rng1_n (by omega), rng_map]
    simp
  have e := comp_all (cs := []) (src := (fun ρ => bnd ((aCons (fVar 0) aNil) ρ) rng1)) (elt := (fTup (aCons (fC (.str "n")) (aCons (fC (.str "")) (aCons (fC (.str "a.b")) (aCons (fC (.bl false)) (aCons (f2 addD (fC (.str "/x")) (fB1 strD (aCons (fVar 0) aNil))) (aCons (fC .non) (aCons (fC (.bl false)) (aCons (fC (.str "any")) (aCons (fC (.int 1)) (aCons (fC (.int 2)) aNil)))))))))))) (ρ := [some (.int n)]) (fun k : Nat => Dv.int (k : Int)) (fun k : Nat => .tup [.str "n", .str "", .str "a.b", .bl false, .str (Str.ofString "/x" ++ is (k : Int)), .non, .bl false, .str "any", .int 1, .int 2]) hr (by simp; omega) fun k hk => by
    have hk' := List.mem_range.mp hk
    have z : f2 addD (fC (.str "/x")) (fB1 strD (aCons (fVar 0) aNil)) [some (.int (k : Int))] = some (.ok (.str (Str.ofString "/x" ++ is (k : Int)))) :=
      (f2_of (x := .str "/x") rfl ((fB1_of (aCons_of (x := .int (k : Int)) rfl aNil_of)).trans (str_i (by omega) (by omega)))).trans (add_s (by have := is_len (i := (k : Int)) (by omega) (by omega); have : (Str.ofString "/x").length = 2 := (by decide); omega))
    exact fTup_of (aCons_of rfl (aCons_of rfl (aCons_of rfl (aCons_of rfl (aCons_of z (aCons_of rfl (aCons_of rfl (aCons_of rfl (aCons_of rfl (aCons_of rfl aNil_of)))))))))) (by simp)
  refine run_rt ?_
  show B__law_many [some (.int n)] = _
  unfold B__law_many
  refine rt_of ?_
  rw [fB1_of (aCons_of e aNil_of)]
  rfl
theorem th_20 : Th (manyD 20) := ⟨true, by kernel_rfl, by kernel_rfl⟩
theorem th_21 : Th (manyD 21) := ⟨false, by kernel_rfl, by kernel_rfl⟩
theorem th_ej {X : List Note} (hg : ∀ n ∈ X, Good n) (hl : X.length ≤ 18) : Th (ej X) := ⟨isJ X, jar_b hg hl, law_jar_b hg hl⟩
theorem th_non : Th .non := ⟨false, by kernel_rfl, by kernel_rfl⟩
theorem th_nn : Th (.tup (List.replicate 10 (.str "n"))) := ⟨false, by kernel_rfl, by kernel_rfl⟩
theorem th_lst (l : List Dv) : Th (.lst l) := ⟨false, rfl, rfl⟩
structure Odd (A : List Note) (d : Dv) : Prop where
  n : F_is_note [d] = bo false
  i : It1 5 d
  t : Th d
theorem odd_of {A : List Note} (J : Jar A) {d : Dv} (h : d ∈ ([.non, .tup [], ej (A.take 1), .tup (List.replicate 10 (.str "n"))] : List Dv)) : Odd A d := by
  simp only [List.mem_cons, List.not_mem_nil, or_false] at h
  have gt : ∀ n ∈ A.take 1, Good n := fun n hn => J.g n (List.mem_of_mem_take hn)
  rcases h with rfl | rfl | rfl | rfl
  · exact ⟨by kernel_rfl, it_non.le (by omega), th_non⟩
  · exact ⟨by kernel_rfl, (it_ej (xs := []) (by simp)).le (by omega), th_ej (X := []) (by simp) (by simp)⟩
  · refine ⟨?_, (it_ej gt).le (by omega), th_ej gt (by simp; omega)⟩
    have e : F_is_tuple_of [ej (A.take 1), .int 10] = bo false := by
      have hl : ¬ (((A.take 1).length : Int) = 10) := by simp; omega
      simp [F_is_tuple_of, runF, B_is_tuple_of, fSeq, sq, fIfS, fRet, fRetN, fDrop, fSet, bndS, bnd, bOr, bAnd, bNot, fB, toB, fCall, fCallE, aCons, aNil, fVar, fC, f1, f2, ixD, atD, vOr, vAnd, vNot, fIf, fTup, fLst, fB1, fM, fRaise, fNever, isN, notN, isiD, tbBool, tbTup, tbStr, tbInt, ej, lenD, eqX, eqS]
      omega
    simp [F_is_note, runF, B_is_note, fSeq, sq, fIfS, fRet, fRetN, fDrop, fSet, bndS, bnd, bOr, bAnd, bNot, fB, toB, fCall, fCallE, aCons, aNil, fVar, fC, f1, f2, ixD, atD, vOr, vAnd, vNot, fIf, fTup, fLst, fB1, fM, fRaise, fNever, isN, notN, isiD, tbBool, tbTup, tbStr, tbInt, e]
  · refine ⟨by kernel_rfl, (it_tup (k := 0) fun x hx => ?_).le (by omega), th_nn⟩
    rw [(List.mem_replicate.mp hx).2]
    exact it_str (by kernel_rfl)
theorem addT_t {a b : List Dv} (h : a.length + b.length ≤ 100000) : addT (.tup a) (.tup b) = some (.ok (.tup (a ++ b))) := by
  show (if a.length + b.length ≤ 100000 then _ else none) = _
  rw [if_pos h]
theorem law_true (ns : List Int) (hl : ns.length ≤ 63) : F_law [.scr ns] = some (.ok (.bl true)) := by
  obtain ⟨A, nowA, eA, ja, la, jiA⟩ := jar_ok ns hl 0 5 (by omega)
  obtain ⟨B, nowB, eB, jb, lb, _⟩ := jar_ok ns hl 100 3 (by omega)
  obtain ⟨d90, a90, b90, e90⟩ := drawn_ok ns hl 90 (A.length + 1 : Int) (by omega)
  obtain ⟨d91, a91, b91, e91⟩ := drawn_ok ns hl 91 4 (by omega)
  obtain ⟨now, n0, n1, e92⟩ := drawn_ok ns hl 92 60 (by omega)
  obtain ⟨hs, mhs, e93⟩ := name_ok ns hl 93
  obtain ⟨d94, a94, b94, e94⟩ := drawn_ok ns hl 94 4 (by omega)
  obtain ⟨d95, a95, b95, e95⟩ := drawn_ok ns hl 95 4 (by omega)
  obtain ⟨k, rfl⟩ : ∃ k : Nat, d90 = (k : Int) := ⟨d90.toNat, by omega⟩
  have hk : k ≤ A.length := by omega
  have v0 : v_law_0 [some (.scr ns), none, none, none, none, none, none, none, none, none, none, none, none, none, none] = some (.ok (ej A)) := call3 F__law_jar rfl rfl rfl eA
  have v1 : v_law_1 [some (.scr ns), some (ej A), none, none, none, none, none, none, none, none, none, none, none, none, none] = some (.ok (ej B)) := call3 F__law_jar rfl rfl rfl eB
  have v2 : v_law_2 (EW ns (ej A) (ej B) none none none none none none none none none none none none) = some (.ok (.int (k : Int))) := by
    refine call3 F__law_drawn rfl rfl (c := .int (A.length + 1 : Int)) ?_ e90
    show addT (.int ((A.map enc).length : Int)) (.int 1) = _
    rw [List.length_map]
    rfl
  obtain ⟨od, mo, io⟩ := ix_mem (l := [.non, .tup [], ej (A.take 1), .tup (List.replicate 10 (.str "n"))]) a91 b91
  have cut1 : cutT (ej A) none (some ((1 : Nat) : Int)) = some (.ok (ej (A.take 1))) := by
    show some (Rs.ok (Dv.tup (cutL (A.map enc) none (some ((1 : Nat) : Int))))) = _
    by_cases h0 : A = []
    · subst h0; rfl
    · rw [cutL_to _ _ (by cases A; exact absurd rfl h0; simp), ← List.map_take]
      rfl
  have v3 : v_law_3 (EW ns (ej A) (ej B) (some (.int (k : Int))) none none none none none none none none none none none) = some (.ok od) := by
    have z : fLst (aCons (fC .non) (aCons (fTup aNil) (aCons (fCutT (fVar 1) oNone (oSome (fC (.int 1)))) (aCons (f2 mulT (fTup (aCons (fC (.str "n")) aNil)) (fC (.int 10))) aNil)))) (EW ns (ej A) (ej B) (some (.int (k : Int))) none none none none none none none none none none none) = some (.ok (.lst [.non, .tup [], ej (A.take 1), .tup (List.replicate 10 (.str "n"))])) :=
      fLst_of (aCons_of rfl (aCons_of (x := .tup []) rfl (aCons_of (x := ej (A.take 1)) cut1 (aCons_of (x := .tup (List.replicate 10 (.str "n"))) (by kernel_rfl) aNil_of)))) (by simp)
    exact (f2_of z (call3 F__law_drawn rfl rfl rfl e91)).trans io
  have oO := odd_of ja mo
  let T5 : Dv := .tup ((A.take k).map enc ++ [od] ++ (A.drop k).map enc)
  let xs : List Dv := [ej A, ej A.reverse, ej (A ++ A.take 1), ej (A ++ B), T5, .lst (A.map enc), .non, .tup []]
  let E4 : Ev := EW ns (ej A) (ej B) (some (.int (k : Int))) (some od) none none none none none none none none none none
  have v4 : v_law_4 E4 = some (.ok (.lst xs)) := by
    have q2 : fBack (fVar 1) E4 = some (.ok (ej A.reverse)) := by
      show some (Rs.ok (Dv.tup (A.map enc).reverse)) = _
      rw [← List.map_reverse]; rfl
    have q3 : f2 addT (fVar 1) (fCutT (fVar 1) oNone (oSome (fC (.int 1)))) E4 = some (.ok (ej (A ++ A.take 1))) := by
      refine (f2_of (x := ej A) rfl (y := ej (A.take 1)) cut1).trans ((addT_t (by simp; omega)).trans ?_)
      rw [← List.map_append]; rfl
    have q4 : f2 addT (fVar 1) (fVar 2) E4 = some (.ok (ej (A ++ B))) := by
      refine (f2_of (x := ej A) (y := ej B) rfl rfl).trans ((addT_t (by simp; omega)).trans ?_)
      rw [← List.map_append]; rfl
    have c1 : fCutT (fVar 1) oNone (oSome (fVar 3)) E4 = some (.ok (.tup ((A.take k).map enc))) := by
      show some (Rs.ok (Dv.tup (cutL (A.map enc) none (some (k : Int))))) = _
      rw [cutL_to _ _ (by simpa using hk), List.map_take]
    have c2 : fCutT (fVar 1) (oSome (fVar 3)) oNone E4 = some (.ok (.tup ((A.drop k).map enc))) := by
      show some (Rs.ok (Dv.tup (cutL (A.map enc) (some (k : Int)) none))) = _
      rw [cutL_from _ _ (by simpa using hk), List.map_drop]
    have q5 : f2 addT (f2 addT (fCutT (fVar 1) oNone (oSome (fVar 3))) (fTup (aCons (fVar 4) aNil))) (fCutT (fVar 1) (oSome (fVar 3)) oNone) E4 = some (.ok T5) :=
      (f2_of ((f2_of c1 (y := .tup [od]) rfl).trans (addT_t (by simp; omega))) c2).trans (addT_t (by simp; omega))
    exact fLst_of (aCons_of (x := ej A) rfl (aCons_of q2 (aCons_of q3 (aCons_of q4 (aCons_of q5 (aCons_of (x := .lst (A.map enc)) rfl (aCons_of rfl (aCons_of (x := .tup []) rfl aNil_of)))))))) (show (8 : Nat) ≤ 100000 by omega)
  let E5 : Ev := EW ns (ej A) (ej B) (some (.int (k : Int))) (some od) (some (.lst xs)) none none none none none none none none none
  let ys : List Dv := xs ++ [manyD 20, manyD 21, ej (B ++ A), od]
  have hsrc : iSeq (f2 addT (fVar 5) (fLst (aCons (fCall F__law_many 1 (aCons (fC (.int 20)) aNil)) (aCons (fCall F__law_many 1 (aCons (fC (.int 21)) aNil)) (aCons (f2 addT (fVar 2) (fVar 1)) (aCons (fVar 4) aNil)))))) E5 = some (.ok ys) := by
    have q : f2 addT (fVar 2) (fVar 1) E5 = some (.ok (ej (B ++ A))) := by
      refine (f2_of (x := ej B) (y := ej A) rfl rfl).trans ((addT_t (by simp; omega)).trans ?_)
      rw [← List.map_append]; rfl
    have z : f2 addT (fVar 5) (fLst (aCons (fCall F__law_many 1 (aCons (fC (.int 20)) aNil)) (aCons (fCall F__law_many 1 (aCons (fC (.int 21)) aNil)) (aCons (f2 addT (fVar 2) (fVar 1)) (aCons (fVar 4) aNil))))) E5 = some (.ok (.lst ys)) :=
      (f2_of (x := .lst xs) rfl (fLst_of (aCons_of (call1 F__law_many rfl (many_of 20 (by omega))) (aCons_of (call1 F__law_many rfl (many_of 21 (by omega))) (aCons_of q (aCons_of (x := od) rfl aNil_of)))) (by simp))).trans (addT_l (by simp [xs]))
    unfold iSeq
    rw [z]
    rfl
  have gAB : ∀ {X Y : List Note}, (∀ n ∈ X, Good n) → (∀ n ∈ Y, Good n) → ∀ n ∈ X ++ Y, Good n := fun hX hY n hn => by
    rcases List.mem_append.mp hn with h | h
    · exact hX n h
    · exact hY n h
  have hT5 : Th T5 := by
    have e : T5 = .tup (((A.take k).map some ++ [none] ++ (A.drop k).map some).map (enO od)) := by
      show Dv.tup _ = _
      simp [enO, Function.comp_def]
    rw [e]
    obtain ⟨h1, h2⟩ := odd_no (L := (A.take k).map some ++ [none] ++ (A.drop k).map some) (d := od) oO.n oO.i (by simp) (fun n hn => by
      rcases List.mem_append.mp hn with h | h
      · rcases List.mem_append.mp h with h | h
        · obtain ⟨m, hm, e⟩ := List.mem_map.mp h
          cases e
          exact ja.g n (List.mem_of_mem_take hm)
        · simp at h
      · obtain ⟨m, hm, e⟩ := List.mem_map.mp h
        cases e
        exact ja.g n (List.mem_of_mem_drop hm)) (by simp; omega)
    exact ⟨false, h1, h2⟩
  have hTh : ∀ d ∈ ys, Th d := by
    intro d hd
    simp only [ys, xs, List.mem_append, List.mem_cons, List.not_mem_nil, or_false] at hd
    rcases hd with (rfl | rfl | rfl | rfl | rfl | rfl | rfl | rfl) | rfl | rfl | rfl | rfl
    · exact th_ej ja.g ja.l
    · exact th_ej (fun n hn => ja.g n (List.mem_reverse.mp hn)) (by simp; omega)
    · exact th_ej (gAB ja.g fun n hn => ja.g n (List.mem_of_mem_take hn)) (by simp; omega)
    · exact th_ej (gAB ja.g jb.g) (by simp; omega)
    · exact hT5
    · exact th_lst _
    · exact th_non
    · exact th_ej (X := []) (by simp) (by simp)
    · exact th_20
    · exact th_21
    · exact th_ej (gAB jb.g ja.g) (by simp; omega)
    · exact oO.t
  have hloop1 : loopF 6 [6, 7] b_law_0 ys E5 = some (.nx E5) := loopF_const (fun d hd => by
    obtain ⟨kk, e⟩ := body_0 (ns := ns) (J := ej A) (M := ej B) (a3 := some (.int (k : Int))) (a4 := some od) (a5 := some (.lst xs)) (hTh d hd)
    exact ⟨_, e, rfl⟩) _ rfl
  have v6 : v_law_6 E5 = some (.ok (.int now)) := call3 F__law_drawn rfl rfl rfl e92
  let E8 : Ev := EW ns (ej A) (ej B) (some (.int (k : Int))) (some od) (some (.lst xs)) none none (some (.int now)) none none none none none none
  let FA := A.filter fun n => !ended n now
  have gF : ∀ n ∈ FA, Good n := fun n hn => ja.g n (List.mem_filter.mp hn).1
  have c2 : c_law_2 E8 = some (.ok false) := by
    have e := comp_some (cs := [("_law_now", 8)]) (src := iSeq (fVar 1)) (tst := (bOr (fB (f2 isN (f2 ixD (fVar 0) (fC (.int 5))) (fC .non))) (fB (f2 gtD (f2 ixD (fVar 0) (fC (.int 5))) (fVar 1))))) (elt := fVar 0) (ρ := E8) enc (fun n => !ended n now) enc (src_of rfl) (by omega) fun n hn => ⟨by
      have hc : (capE [("_law_now", 8)] E8).set 0 (some (enc n)) = [some (enc n), some (.int now)] := rfl
      rw [hc]
      have z : f2 ixD (fVar 0) (fC (.int 5)) [some (enc n), some (.int now)] = some (.ok (eO n.ends)) := rfl
      unfold ended
      cases he : n.ends with
      | none =>
        rw [he] at z
        exact bOr_T (fB_of ((f2_of z (y := .non) rfl).trans rfl))
      | some i =>
        rw [he] at z
        rw [bOr_F (fB_of (k := false) ((f2_of z (y := .non) rfl).trans rfl))]
        refine fB_of ((f2_of z (y := .int now) rfl).trans ?_)
        show some (Rs.ok (Dv.bl (decide (now < i)))) = _
        congr 3
        rw [Bool.eq_iff_iff]
        simp, rfl⟩
    have z1 : fCall F__law_told 3 (aCons (fC (.int 0)) (aCons (fVar 1) (aCons (fVar 8) aNil))) E8 = some (.ok (ej FA)) := call3 F__law_told rfl rfl rfl (told_0 ja n0 (by omega))
    have z2 : fB1 tupleD (aCons (fComp [("_law_now", 8)] (iSeq (fVar 1)) (some (bOr (fB (f2 isN (f2 ixD (fVar 0) (fC (.int 5))) (fC .non))) (fB (f2 gtD (f2 ixD (fVar 0) (fC (.int 5))) (fVar 1))))) (fVar 0)) aNil) E8 = some (.ok (ej FA)) := (fB1_of (aCons_of e aNil_of)).trans rfl
    exact fB_of ((f2_of z1 z2).trans (ne_self ((it_ej gF).okP (by omega)) (it_ej gF).p))
  have v7 : v_law_7 E8 = some (.ok (.str hs)) := call2 F__law_name rfl rfl e93
  let E9 : Ev := EW ns (ej A) (ej B) (some (.int (k : Int))) (some od) (some (.lst xs)) none none (some (.int now)) (some (.str hs)) none none none none none
  let GA := A.filter fun n => !wiB n.house hs
  have gG : ∀ n ∈ GA, Good n := fun n hn => ja.g n (List.mem_filter.mp hn).1
  have c3 : c_law_3 E9 = some (.ok false) := by
    have e := comp_some (cs := [("_law_house", 9)]) (src := iSeq (fVar 1)) (tst := (bNot (fB (fCall F__law_within 2 (aCons (f2 ixD (fVar 0) (fC (.int 2))) (aCons (fVar 1) aNil)))))) (elt := fVar 0) (ρ := E9) enc (fun n => !wiB n.house hs) enc (src_of rfl) (by omega) fun n hn => ⟨bNot_of (fB_of (call2 F__law_within rfl rfl (wi_of (ja.g n hn).house mhs).2)), rfl⟩
    have z1 : fCall F__law_told 3 (aCons (fC (.int 1)) (aCons (fVar 1) (aCons (fVar 9) aNil))) E9 = some (.ok (ej GA)) := call3 F__law_told rfl rfl rfl (told_1 ja mhs)
    have z2 : fB1 tupleD (aCons (fComp [("_law_house", 9)] (iSeq (fVar 1)) (some (bNot (fB (fCall F__law_within 2 (aCons (f2 ixD (fVar 0) (fC (.int 2))) (aCons (fVar 1) aNil)))))) (fVar 0)) aNil) E9 = some (.ok (ej GA)) := (fB1_of (aCons_of e aNil_of)).trans rfl
    exact fB_of ((f2_of z1 z2).trans (ne_self ((it_ej gG).okP (by omega)) (it_ej gG).p))
  have hmax : ∃ L : Int, 0 ≤ L ∧ L ≤ 30 ∧ (∀ a ∈ A, a.md ≤ L) ∧ v_law_8 E9 = some (.ok (.int L)) := by
    have e : fComp [] (iSeq (fVar 1)) none (f2 ixD (fVar 0) (fC (.int 8))) E9 = some (.ok (.lst ((A.map Note.md).map Dv.int))) := by
      rw [List.map_map]
      exact comp_all enc (fun n => Dv.int n.md) (src_of rfl) (by omega) fun n hn => rfl
    have z : f2 addT (fComp [] (iSeq (fVar 1)) none (f2 ixD (fVar 0) (fC (.int 8)))) (fLst (aCons (fC (.int 0)) aNil)) E9 = some (.ok (.lst ((A.map Note.md ++ [0]).map Dv.int))) := by
      refine (f2_of e (y := .lst [.int 0]) rfl).trans ((addT_l (by simp; omega)).trans ?_)
      simp
    obtain ⟨m, r, em⟩ : ∃ m r, A.map Note.md ++ [0] = m :: r := by
      cases A with
      | nil => exact ⟨0, [], rfl⟩
      | cons a l => exact ⟨a.md, l.map Note.md ++ [0], rfl⟩
    obtain ⟨g1, g2, g3⟩ := mxL_ge r m
    have hall : ∀ x ∈ m :: r, x ≤ mxL m r := fun x hx => by
      rcases List.mem_cons.mp hx with rfl | hx
      · exact g1
      · exact g2 x hx
    have hin : mxL m r ∈ m :: r := by
      rcases g3 with h | h
      · rw [h]; exact List.mem_cons_self
      · exact List.mem_cons_of_mem _ h
    rw [← em] at hall hin
    refine ⟨mxL m r, hall 0 (by simp), ?_, fun a ha => hall a.md (List.mem_append_left _ (List.mem_map_of_mem ha)), ?_⟩
    · rcases List.mem_append.mp hin with h | h
      · obtain ⟨a, ha, e⟩ := List.mem_map.mp h
        have := jiA.m a ha
        have := jiA.n1
        omega
      · rw [List.mem_singleton.mp h]; omega
    · show fB1 maxL (aCons _ aNil) E9 = _
      rw [fB1_of (aCons_of z aNil_of)]
      show (match intsOf ((A.map Note.md ++ [0]).map Dv.int) with | some (n :: ns) => (some (.ok (.int (mxL n ns))) : Option (Rs Dv)) | _ => none) = _
      rw [intsOf_map, em]
  obtain ⟨L, L0, L1, hM, v8⟩ := hmax
  let E10 : Ev := EW ns (ej A) (ej B) (some (.int (k : Int))) (some od) (some (.lst xs)) none none (some (.int now)) (some (.str hs)) (some (.int L)) none none none none
  have hloop2 : loopF 11 [11, 12, 13, 14] b_law_1 (B.map enc) E10 = some (.nx E10) := loopF_const (fun d hd => by
    obtain ⟨n, hn, rfl⟩ := List.mem_map.mp hd
    exact body_1 ja (jb.g n hn) L0 L1 hM) _ rfl
  obtain ⟨om, mm, im⟩ := ix_mem (l := [.int (-1), .int 10000, .non, .bl true]) a94 b94
  have hom : F_is_moment [om] = bo false := by
    simp only [List.mem_cons, List.not_mem_nil, or_false] at mm
    rcases mm with rfl | rfl | rfl | rfl <;> kernel_rfl
  have v12 : v_law_12 E10 = some (.ok om) := (f2_of (x := .lst [.int (-1), .int 10000, .non, .bl true]) rfl (call3 F__law_drawn rfl rfl rfl e94)).trans im
  let E11 : Ev := EW ns (ej A) (ej B) (some (.int (k : Int))) (some om) (some (.lst xs)) none none (some (.int now)) (some (.str hs)) (some (.int L)) none none none none
  have c4 : c_law_4 E11 = some (.ok false) := by
    refine fB_of ((f2_of (call3 F__law_told rfl rfl rfl (told_0n ja hom)) (y := .tup [.str "refused", .int 6]) rfl).trans ?_)
    kernel_rfl
  obtain ⟨on, mn, inn⟩ := ix_mem (l := [.str "", .non, .str "a..b", .int 1]) a95 b95
  have hon : F_is_name [on] = bo false := by
    simp only [List.mem_cons, List.not_mem_nil, or_false] at mn
    rcases mn with rfl | rfl | rfl | rfl <;> kernel_rfl
  have r0 : r_law_0 E11 = bo true := by
    have z : f2 ixD (fLst (aCons (fC (.str "")) (aCons (fC .non) (aCons (fC (.str "a..b")) (aCons (fC (.int 1)) aNil))))) (fCall F__law_drawn 3 (aCons (fVar 0) (aCons (fC (.int 95)) (aCons (fC (.int 4)) aNil)))) E11 = some (.ok on) := (f2_of (x := .lst [.str "", .non, .str "a..b", .int 1]) rfl (call3 F__law_drawn rfl rfl rfl e95)).trans inn
    refine (f2_of (call3 F__law_told rfl rfl z (told_1n ja hon)) (y := .tup [.str "refused", .int 0]) rfl).trans ?_
    kernel_rfl
  refine run_rt ?_
  show B_law [some (.scr ns), none, none, none, none, none, none, none, none, none, none, none, none, none, none] = _
  unfold B_law
  rw [fSeq_nx (fSet_nx (ρ' := [some (.scr ns), some (ej A), none, none, none, none, none, none, none, none, none, none, none, none, none]) v0 rfl)]
  rw [fSeq_nx (fSet_nx (ρ' := EW ns (ej A) (ej B) none none none none none none none none none none none none) v1 rfl)]
  rw [fSeq_nx (fSet_nx (ρ' := EW ns (ej A) (ej B) (some (.int (k : Int))) none none none none none none none none none none none) v2 rfl)]
  rw [fSeq_nx (fSet_nx (ρ' := E4) v3 rfl)]
  rw [fSeq_nx (fSet_nx (ρ' := E5) v4 rfl)]
  rw [fSeq_nx ((fFor_of hsrc).trans hloop1)]
  rw [fSeq_nx (fSet_nx (ρ' := E8) v6 rfl)]
  rw [fSeq_nx (ifS_skip c2)]
  rw [fSeq_nx (fSet_nx (ρ' := E9) v7 rfl)]
  rw [fSeq_nx (ifS_skip c3)]
  rw [fSeq_nx (fSet_nx (ρ' := E10) v8 rfl)]
  rw [fSeq_nx ((fFor_of (show iSeq (fVar 2) E10 = some (.ok (B.map enc)) from rfl)).trans hloop2)]
  rw [fSeq_nx (fSet_nx (ρ' := E11) v12 rfl)]
  rw [fSeq_nx (ifS_skip c4)]
  exact rt_of r0
end G
namespace G
open PySem PySem.Spec PyProof.Rows L2 FD
theorem walk {l : PySem.W.OpenLaw} {q : Program} {loose : List Str} {XP : (Str → Option Value) → Heap → Prop} {YP : World → Heap → Prop} {d : DefRec} {K : Params → PySem.W.Frag} (hn : l.most = some 63) (hdf : d.params.defaults = [])
    (hY : ∀ (w : World) (h : Heap), YP w h → (K w.params).In h)
    (F : ∀ (w : World) (mg : Str → Option Value) (fa : Addr) (h : Heap), (K w.params).In h → h.Ns mainGlobals mg → mg d.name = some (.ref fa) →
      ∃ fd : FuncData, (∀ (s : Shared) (u : Value), BindsTo s fd ⟨[u], []⟩ [("_law_script", u)]) ∧ ∀ base : Heap, (K w.params).In base → base.Ns mainGlobals mg → FnOk l.prog w (K w.params) mg base CX0 9 fa fd ["_law_script"] (spF (K w.params) F_law 1)) :
    PySem.W.WalkO q loose XP YP l.row.toRowW d [] (fun f vs => PySem.call f vs) :=
  L2.walk_of (n := 63) (k := 9) (x := "_law_script") (CX := fun _ => CX0) (sp := fun w => spF (K w.params) F_law 1) hn (by decide) hdf ⟨rfl, by decide, by decide⟩ hY F
    (fun _ _ a ns hl _ hS => ⟨[.scr ns], ⟨.ref a, [], rfl, ⟨a, rfl, hS⟩, rfl⟩, rfl, by rw [law_true ns hl]; exact fun v H' _ r => r⟩) fun _ _ _ _ _ z => z
end G
open PySem PySem.W PyProof.Rows
set_option maxRecDepth 100000 in
set_option maxHeartbeats 0 in
theorem PySem.Challenge.cw_notejar_k50_jars_holds : PySem.Challenge.rw_notejar_k50_jars.Holds := by
  w_on; o_law
  refine PySem.W.holds_open (q := G.VQ) (loose := G.VL) (Xt := fun s => recOk [] s) (XP := fun _ _ => True) (Yf := Hook.obs (kHook G.KK G.KA G.KA_ok)) (Ya := Hook.val (kHook G.KK G.KA G.KA_ok)) (YP := Hook.says (kHook G.KK G.KA G.KA_ok)) (N := 6494) G.left (Hook.of (kHook G.KK G.KA G.KA_ok)) (Hook.keeps (kHook G.KK G.KA G.KA_ok)) (fun _ _ => trivial) (fun _ _ _ _ _ => trivial) (by rfl) (by rfl) (by rfl) (fun s e => recFacts_of e) (by rfl) (by first | assumption | decide +kernel) (by decide +kernel) ⟨rfl, rfl, rfl, rfl, rfl, by decide +kernel⟩ ?hw ?hc
  (case hw => w_witness2)
  refine G.walk (l := PySem.Challenge.rw_notejar_k50_jars) rfl rfl (fun w h Y => PySem.W.kIn_of Y) ?F
  case F =>
    intro w mg fa h KX hG hmg
    exact G.all_mk (f1 := 275) (f2 := 282) (f3 := 123) (f4 := 170) (f5 := 177) (f6 := 116) (f7 := 137) (f8 := 142) (f9 := 191) (f10 := 163) (f11 := 203) (f12 := 130) (f13 := 196) (f14 := 210) (f15 := 368) (f16 := 289) (f17 := 301) (f18 := 349) (f19 := 373) (f20 := 356) (f21 := 156) (f22 := 217) (f23 := 239) (f24 := 234) (f25 := 229) (f26 := 246) (f27 := 149) (f28 := 263) (f29 := 184) (f30 := 224) (f31 := 258) (f32 := 253) (f33 := 363) (f34 := 330) (f35 := 268) (f36 := 378) (od36 := Option.none) (an36 := Option.none) (sl36 := #[]) (oc36 := Value.type "function") (kV36 := Value.none) (dc36 := Value.none) (pm36 := (G.kS "law_notejar_k50_jars" 551)) (cd36 := (G.kR 377)) (ct36 := Value.none) (tk1 := 346) (tk2 := 348) (tk3 := 397) (tk4 := 350) (tk5 := 424) (tk6 := 386) (tk7 := 428) (tk8 := 352) (tk9 := 498) (tk10 := 462) (tk11 := 458) (tk12 := 456) (tk13 := 468) (tk14 := 452) (tk15 := 422) (tk16 := 472) (tk17 := 460) (tk18 := 466) (tk19 := 464) (tk20 := 470) (tk21 := 454) (tk22 := 426) (tk23 := 384) (C0 := 37) (C1 := 49) (C2 := 61) (C3 := 73) (C4 := 85) (C5 := 97) (C6 := 109) (CJ := 24) KX hG hmg (G.af 275 "law_notejar_k50_jars" 551 274 (by kernel_rfl) (by kernel_rfl) (by kernel_rfl) (by kernel_rfl)) (G.af 282 "law_notejar_k50_jars" 551 281 (by kernel_rfl) (by kernel_rfl) (by kernel_rfl) (by kernel_rfl)) (G.af 123 "notejar.kinds" 319 122 (by kernel_rfl) (by kernel_rfl) (by kernel_rfl) (by kernel_rfl)) (G.af 170 "notejar.asks" 395 169 (by kernel_rfl) (by kernel_rfl) (by kernel_rfl) (by kernel_rfl)) (G.af 177 "notejar.asks" 395 176 (by kernel_rfl) (by kernel_rfl) (by kernel_rfl) (by kernel_rfl)) (G.af 116 "notejar.kinds" 319 115 (by kernel_rfl) (by kernel_rfl) (by kernel_rfl) (by kernel_rfl)) (G.af 137 "notejar.names" 344 136 (by kernel_rfl) (by kernel_rfl) (by kernel_rfl) (by kernel_rfl)) (G.af 142 "notejar.names" 344 141 (by kernel_rfl) (by kernel_rfl) (by kernel_rfl) (by kernel_rfl)) (G.af 191 "notejar.giving" 420 190 (by kernel_rfl) (by kernel_rfl) (by kernel_rfl) (by kernel_rfl)) (G.af 163 "notejar.paths" 382 162 (by kernel_rfl) (by kernel_rfl) (by kernel_rfl) (by kernel_rfl)) (G.af 203 "notejar.giving" 420 202 (by kernel_rfl) (by kernel_rfl) (by kernel_rfl) (by kernel_rfl)) (G.af 130 "notejar.kinds" 319 129 (by kernel_rfl) (by kernel_rfl) (by kernel_rfl) (by kernel_rfl)) (G.af 196 "notejar.giving" 420 195 (by kernel_rfl) (by kernel_rfl) (by kernel_rfl) (by kernel_rfl)) (G.af 210 "notejar.notes" 450 209 (by kernel_rfl) (by kernel_rfl) (by kernel_rfl) (by kernel_rfl)) (G.af 368 "law_notejar_k50_jars" 551 367 (by kernel_rfl) (by kernel_rfl) (by kernel_rfl) (by kernel_rfl)) (G.af 289 "law_notejar_k50_jars" 551 288 (by kernel_rfl) (by kernel_rfl) (by kernel_rfl) (by kernel_rfl)) (G.af 301 "law_notejar_k50_jars" 551 300 (by kernel_rfl) (by kernel_rfl) (by kernel_rfl) (by kernel_rfl)) (G.af 349 "law_notejar_k50_jars" 551 348 (by kernel_rfl) (by kernel_rfl) (by kernel_rfl) (by kernel_rfl)) (G.af 373 "law_notejar_k50_jars" 551 372 (by kernel_rfl) (by kernel_rfl) (by kernel_rfl) (by kernel_rfl)) (G.af 356 "law_notejar_k50_jars" 551 355 (by kernel_rfl) (by kernel_rfl) (by kernel_rfl) (by kernel_rfl)) (G.af 156 "notejar.names" 344 155 (by kernel_rfl) (by kernel_rfl) (by kernel_rfl) (by kernel_rfl)) (G.af 217 "notejar.notes" 450 216 (by kernel_rfl) (by kernel_rfl) (by kernel_rfl) (by kernel_rfl)) (G.af 239 "notejar.jars" 496 238 (by kernel_rfl) (by kernel_rfl) (by kernel_rfl) (by kernel_rfl)) (G.af 234 "notejar.jars" 496 233 (by kernel_rfl) (by kernel_rfl) (by kernel_rfl) (by kernel_rfl)) (G.af 229 "notejar.jars" 496 228 (by kernel_rfl) (by kernel_rfl) (by kernel_rfl) (by kernel_rfl)) (G.af 246 "notejar.jars" 496 245 (by kernel_rfl) (by kernel_rfl) (by kernel_rfl) (by kernel_rfl)) (G.af 149 "notejar.names" 344 148 (by kernel_rfl) (by kernel_rfl) (by kernel_rfl) (by kernel_rfl)) (G.af 263 "notejar.jars" 496 262 (by kernel_rfl) (by kernel_rfl) (by kernel_rfl) (by kernel_rfl)) (G.af 184 "notejar.asks" 395 183 (by kernel_rfl) (by kernel_rfl) (by kernel_rfl) (by kernel_rfl)) (G.af 224 "notejar.notes" 450 223 (by kernel_rfl) (by kernel_rfl) (by kernel_rfl) (by kernel_rfl)) (G.af 258 "notejar.jars" 496 257 (by kernel_rfl) (by kernel_rfl) (by kernel_rfl) (by kernel_rfl)) (G.af 253 "notejar.jars" 496 252 (by kernel_rfl) (by kernel_rfl) (by kernel_rfl) (by kernel_rfl)) (G.af 363 "law_notejar_k50_jars" 551 362 (by kernel_rfl) (by kernel_rfl) (by kernel_rfl) (by kernel_rfl)) (G.af 330 "law_notejar_k50_jars" 551 329 (by kernel_rfl) (by kernel_rfl) (by kernel_rfl) (by kernel_rfl)) (G.af 268 "notejar.jars" 496 267 (by kernel_rfl) (by kernel_rfl) (by kernel_rfl) (by kernel_rfl)) (by kernel_rfl) (by kernel_rfl) (by kernel_rfl) (by kernel_rfl) (by kernel_rfl) (by kernel_rfl) (by kernel_rfl) (by kernel_rfl) (by kernel_rfl) (by kernel_rfl) (by kernel_rfl) (by kernel_rfl) (by kernel_rfl) (by kernel_rfl) (by kernel_rfl) (by kernel_rfl) (by kernel_rfl) (by kernel_rfl) (by kernel_rfl) (by kernel_rfl) (by kernel_rfl) (by kernel_rfl) (by kernel_rfl) (by kernel_rfl) (by kernel_rfl) (by kernel_rfl) (by kernel_rfl) (by kernel_rfl) (by kernel_rfl) (by kernel_rfl) (by kernel_rfl) (by kernel_rfl) (by kernel_rfl) (by kernel_rfl) (by kernel_rfl) (by kernel_rfl) (by kernel_rfl) (by kernel_rfl) (by kernel_rfl) (by kernel_rfl) (by kernel_rfl) (by kernel_rfl) (by kernel_rfl) (by kernel_rfl) (by kernel_rfl) (by kernel_rfl) (by kernel_rfl) (by kernel_rfl) (by kernel_rfl) (by kernel_rfl)
#print axioms PySem.Challenge.cw_notejar_k50_jars_holds
