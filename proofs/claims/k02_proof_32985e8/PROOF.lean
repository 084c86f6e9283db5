import PyProof.Rows.All
import Wide.All
import OpenK.AllK
import Wide.FinOn
import Lean
import PyProof.EqAt
import PyProof.EqKinds
import PyProof.TupleCall
import PySem.SetTable
import PyProof.SetKind
import PyProof.TupleKey
import PyProof.DictKinds
import PyProof.Rows.SetFrom
import PyProof.ZipIter
import PyProof.Conv_int
import PyProof.FactsAll.str
import PyProof.EnumIter
import PyProof.Rows.SortStr
import PyProof.Rows.SortWalk
import PyProof.Rows.MinMaxN
import PyProof.ConsumeWalk
import PyProof.CollectWalk
import PyProof.WalksMore
import PyProof.CollectStr
import PySem.Challenge.RW_notejar_k02_tables
set_option Elab.async false
namespace G
open PySem PySem.W PyProof.Rows
noncomputable def hT (i : Nat) : Stmt := PySem.Challenge.pw_notejar_k02_tables.main.body.getD i (.Pass ⟨0, 0, 0, 0⟩)
noncomputable def hA (s : Stmt) : Arguments := match s with
  | .FunctionDef _ a _ _ _ _ _ _ _ _ => a
  | _ => { posonlyargs := [], args := [], vararg := none, kwonlyargs := [], kw_defaults := [], kwarg := none, defaults := [] }
noncomputable def hB (s : Stmt) : List Stmt := match s with
  | .FunctionDef _ _ b _ _ _ _ _ _ _ => b
  | _ => []
noncomputable def hS (s : Stmt) : Scope := match s with
  | .FunctionDef _ _ _ _ _ _ sc _ _ _ => sc
  | _ => { kind := .function, names := [], isGenerator := false, isCoroutine := false }
noncomputable abbrev kS (s : String) (t : Nat) : Value := .str (Str.ofString s) t
noncomputable abbrev kR (a : Nat) : Value := .ref a
noncomputable abbrev kI (i : Int) (t : Nat) : Value := .int i t
noncomputable abbrev kE (P : Params) (s : String) (t : Nat) (v : Value) : DictEntry := ⟨PySem.PyData.keyHash P (Str.ofString s), .str (Str.ofString s) t, v⟩
noncomputable def kF (x : String) (i : Nat) (m : String) (t c : Nat) : Obj := Obj.mk (Value.type "function") Option.none (Data.func (fnOf (Str.ofString x) (Str.ofString x) (hA (hT i)) (hB (hT i)) (hS (hT i)) .none Value.none Value.none (kS m t) Option.none (kR c) Value.none)) #[]
noncomputable def kC (x : String) (a b c : Nat) (d e f : Int) (g : Nat) (h : Int) (i j : Nat) (k l : Int) (m : Nat) : Obj := Obj.mk (Value.type "code") Option.none (Data.fields #[kS x a, kS x b, kS "/claim/cut.py" c, kI d 0, kI e 0, kI 0 0, kI 0 0, kI f 0, kR g, Value.bool Bool.true, kI h 0, kR i, Value.none, Value.none, Value.none, kR j, kI k 0, kI l 0, kS "/claim/cut.py" m]) #[]
noncomputable def kD (x : String) (a b c : Nat) (d e f : Int) (g : Nat) (h : Int) (i u v j : Nat) (k l : Int) (m : Nat) : Obj := Obj.mk (Value.type "code") Option.none (Data.fields #[kS x a, kS x b, kS "/claim/cut.py" c, kI d 0, kI e 0, kI 0 0, kI 0 0, kI f 0, kR g, Value.bool Bool.true, kI h 0, kR i, Value.none, kR u, kR v, kR j, kI k 0, kI l 0, kS "/claim/cut.py" m]) #[]
noncomputable def KKa (P : Params) : Frag := [(2, Obj.mk Value.none Option.none (Data.dict #[]) #[]),
 (3, Obj.mk (Value.type "dict") Option.none (Data.dict #[kE P "__name__" 165 (kS "law_notejar_k02_tables" 437), kE P "__doc__" 166 Value.none, kE P "__package__" 167 Value.none, kE P "__loader__" 168 (Value.builtin "__main__.__loader__#opaque"), kE P "__spec__" 169 Value.none, kE P "__annotations__" 170 (kR 6), kE P "__builtins__" 171 (kR 4), kE P "__file__" 173 (kS "/claim/cut.py" 172), kE P "__cached__" 174 Value.none, kE P "JarError" 206 (kR 24), kE P "NoName" 222 (kR 37), kE P "NoTable" 238 (kR 49), kE P "NoPath" 254 (kR 61), kE P "NoAsk" 270 (kR 73), kE P "NoNote" 286 (kR 85), kE P "NoJar" 302 (kR 97), kE P "NoNumber" 318 (kR 109), kE P "is_text_of" 326 (kR 116), kE P "FIGURES" 330 (kS "0123456789" 329), kE P "LABEL_SIGNS" 332 (kS "abcdefghijklmnopqrstuvwxyz0123456789-" 331), kE P "LONGEST_LABEL" 334 (kI 8 333), kE P "MOST_LABELS" 336 (kI 5 335), kE P "MOST_RULES" 338 (kI 8 337), kE P "is_label" 345 (kR 123), kE P "is_name" 351 (kR 128), kE P "is_rule" 358 (kR 135), kE P "is_table" 364 (kR 140), kE P "need_name" 371 (kR 147), kE P "need_table" 378 (kR 154), kE P "ends_longest_first" 384 (kR 159), kE P "behind_first_dot" 391 (kR 166), kE P "is_told_open" 399 (kR 173), kE P "open_end" 407 (kR 180), kE P "find_open_end" 417 (kR 187), kE P "own_end" 425 (kR 194), kE P "find_own_end" 436 (kR 201), kE P "_law_cell" 446 (kR 208), kE P "_law_drawn" 456 (kR 215), kE P "_law_name" 465 (kR 222), kE P "_law_table" 471 (kR 227), kE P "_law_path" 480 (kR 234), kE P "_law_ask" 489 (kR 241), kE P "_law_ends" 495 (kR 246), kE P "_law_open" 501 (kR 251), kE P "_law_own" 507 (kR 256), kE P "_law_within" 515 (kR 263), kE P "_law_under" 523 (kR 270), kE P "_law_near" 531 (kR 277), kE P "_law_refused" 539 (kR 284), kE P "_law_told" 549 (kR 291), kE P "_law_is_rule" 556 (kR 298), kE P "_law_is_table" 562 (kR 303), kE P "law" 568 (kR 308)] 53) #[]),
 (23, Obj.mk (Value.type "dict") Option.none (Data.dict #[kE P "__module__" 196 (kS "notejar.errors" 187), kE P "__firstlineno__" 200 (kI 2 199), kE P "__static_attributes__" 201 (kR 22), kE P "__weakref__" 203 (kR 25), kE P "__doc__" 204 Value.none] 3) #[]),
 (24, Obj.mk (Value.type "type") Option.none (Data.cls (PySem.ClassData.mk (Str.ofString "JarError") [Value.type "ValueError"] [kR 24, Value.type "ValueError", Value.type "Exception", Value.type "BaseException", Value.type "object"] 23 (Str.ofString "JarError") Bool.true [] [kR 37, kR 49, kR 61, kR 73, kR 85, kR 97, kR 109] Bool.false Option.none Bool.false)) #[Option.some (kR 15), Option.none, Option.some (kS "JarError" 189), Option.some (kS "JarError" 197), Option.some (Value.builtin "ValueError.__new__"), Option.some (Value.bool Bool.true)]),
 (36, Obj.mk (Value.type "dict") Option.none (Data.dict #[kE P "__module__" 214 (kS "notejar.errors" 187), kE P "__firstlineno__" 218 (kI 4 217), kE P "__static_attributes__" 219 (kR 35), kE P "__doc__" 220 Value.none] 2) #[]),
 (37, Obj.mk (Value.type "type") Option.none (Data.cls (PySem.ClassData.mk (Str.ofString "NoName") [kR 24] [kR 37, kR 24, Value.type "ValueError", Value.type "Exception", Value.type "BaseException", Value.type "object"] 36 (Str.ofString "NoName") Bool.true [] [] Bool.false Option.none Bool.false)) #[Option.some (kR 28), Option.none, Option.some (kS "NoName" 207), Option.some (kS "NoName" 215), Option.some (Value.builtin "ValueError.__new__"), Option.some (Value.bool Bool.true)]),
 (48, Obj.mk (Value.type "dict") Option.none (Data.dict #[kE P "__module__" 230 (kS "notejar.errors" 187), kE P "__firstlineno__" 234 (kI 6 233), kE P "__static_attributes__" 235 (kR 47), kE P "__doc__" 236 Value.none] 2) #[]),
 (49, Obj.mk (Value.type "type") Option.none (Data.cls (PySem.ClassData.mk (Str.ofString "NoTable") [kR 24] [kR 49, kR 24, Value.type "ValueError", Value.type "Exception", Value.type "BaseException", Value.type "object"] 48 (Str.ofString "NoTable") Bool.true [] [] Bool.false Option.none Bool.false)) #[Option.some (kR 40), Option.none, Option.some (kS "NoTable" 223), Option.some (kS "NoTable" 231), Option.some (Value.builtin "ValueError.__new__"), Option.some (Value.bool Bool.true)]),
 (60, Obj.mk (Value.type "dict") Option.none (Data.dict #[kE P "__module__" 246 (kS "notejar.errors" 187), kE P "__firstlineno__" 250 (kI 8 249), kE P "__static_attributes__" 251 (kR 59), kE P "__doc__" 252 Value.none] 2) #[]),
 (61, Obj.mk (Value.type "type") Option.none (Data.cls (PySem.ClassData.mk (Str.ofString "NoPath") [kR 24] [kR 61, kR 24, Value.type "ValueError", Value.type "Exception", Value.type "BaseException", Value.type "object"] 60 (Str.ofString "NoPath") Bool.true [] [] Bool.false Option.none Bool.false)) #[Option.some (kR 52), Option.none, Option.some (kS "NoPath" 239), Option.some (kS "NoPath" 247), Option.some (Value.builtin "ValueError.__new__"), Option.some (Value.bool Bool.true)]),
 (72, Obj.mk (Value.type "dict") Option.none (Data.dict #[kE P "__module__" 262 (kS "notejar.errors" 187), kE P "__firstlineno__" 266 (kI 10 265), kE P "__static_attributes__" 267 (kR 71), kE P "__doc__" 268 Value.none] 2) #[]),
 (73, Obj.mk (Value.type "type") Option.none (Data.cls (PySem.ClassData.mk (Str.ofString "NoAsk") [kR 24] [kR 73, kR 24, Value.type "ValueError", Value.type "Exception", Value.type "BaseException", Value.type "object"] 72 (Str.ofString "NoAsk") Bool.true [] [] Bool.false Option.none Bool.false)) #[Option.some (kR 64), Option.none, Option.some (kS "NoAsk" 255), Option.some (kS "NoAsk" 263), Option.some (Value.builtin "ValueError.__new__"), Option.some (Value.bool Bool.true)]),
 (84, Obj.mk (Value.type "dict") Option.none (Data.dict #[kE P "__module__" 278 (kS "notejar.errors" 187), kE P "__firstlineno__" 282 (kI 12 281), kE P "__static_attributes__" 283 (kR 83), kE P "__doc__" 284 Value.none] 2) #[]),
 (85, Obj.mk (Value.type "type") Option.none (Data.cls (PySem.ClassData.mk (Str.ofString "NoNote") [kR 24] [kR 85, kR 24, Value.type "ValueError", Value.type "Exception", Value.type "BaseException", Value.type "object"] 84 (Str.ofString "NoNote") Bool.true [] [] Bool.false Option.none Bool.false)) #[Option.some (kR 76), Option.none, Option.some (kS "NoNote" 271), Option.some (kS "NoNote" 279), Option.some (Value.builtin "ValueError.__new__"), Option.some (Value.bool Bool.true)]),
 (96, Obj.mk (Value.type "dict") Option.none (Data.dict #[kE P "__module__" 294 (kS "notejar.errors" 187), kE P "__firstlineno__" 298 (kI 14 297), kE P "__static_attributes__" 299 (kR 95), kE P "__doc__" 300 Value.none] 2) #[]),
 (97, Obj.mk (Value.type "type") Option.none (Data.cls (PySem.ClassData.mk (Str.ofString "NoJar") [kR 24] [kR 97, kR 24, Value.type "ValueError", Value.type "Exception", Value.type "BaseException", Value.type "object"] 96 (Str.ofString "NoJar") Bool.true [] [] Bool.false Option.none Bool.false)) #[Option.some (kR 88), Option.none, Option.some (kS "NoJar" 287), Option.some (kS "NoJar" 295), Option.some (Value.builtin "ValueError.__new__"), Option.some (Value.bool Bool.true)]),
 (108, Obj.mk (Value.type "dict") Option.none (Data.dict #[kE P "__module__" 310 (kS "notejar.errors" 187), kE P "__firstlineno__" 314 (kI 16 313), kE P "__static_attributes__" 315 (kR 107), kE P "__doc__" 316 Value.none] 2) #[]),
 (109, Obj.mk (Value.type "type") Option.none (Data.cls (PySem.ClassData.mk (Str.ofString "NoNumber") [kR 24] [kR 109, kR 24, Value.type "ValueError", Value.type "Exception", Value.type "BaseException", Value.type "object"] 108 (Str.ofString "NoNumber") Bool.true [] [] Bool.false Option.none Bool.false)) #[Option.some (kR 100), Option.none, Option.some (kS "NoNumber" 303), Option.some (kS "NoNumber" 311), Option.some (Value.builtin "ValueError.__new__"), Option.some (Value.bool Bool.true)]),
 (115, kC "is_text_of" 321 322 323 19 4 3 112 181 113 114 324 19 325),
 (116, kF "is_text_of" 10 "notejar.kinds" 319 115),
 (122, kD "is_label" 339 340 341 31 1 3 117 181 118 119 120 121 343 31 344),
 (123, kF "is_label" 17 "notejar.names" 327 122),
 (127, kC "is_name" 346 347 348 35 1 3 124 181 125 126 349 35 350),
 (128, kF "is_name" 18 "notejar.names" 327 127),
 (134, kD "is_rule" 352 353 354 42 1 3 129 181 130 131 132 133 356 42 357),
 (135, kF "is_rule" 19 "notejar.names" 327 134),
 (139, kC "is_table" 359 360 361 50 1 3 136 181 137 138 362 50 363),
 (140, kF "is_table" 20 "notejar.names" 327 139),
 (146, kD "need_name" 365 366 367 56 1 3 141 181 142 143 144 145 369 56 370),
 (147, kF "need_name" 21 "notejar.names" 327 146),
 (153, kD "need_table" 372 373 374 59 1 3 148 181 149 150 151 152 376 59 377),
 (154, kF "need_table" 22 "notejar.names" 327 153),
 (158, kC "ends_longest_first" 379 380 381 62 1 3 155 181 156 157 382 62 383),
 (159, kF "ends_longest_first" 23 "notejar.names" 327 158),
 (165, kD "behind_first_dot" 385 386 387 65 1 3 160 181 161 162 163 164 389 65 390)]
noncomputable def KKb (P : Params) : Frag := [(166, kF "behind_first_dot" 24 "notejar.names" 327 165),
 (172, kD "is_told_open" 392 393 394 67 2 3 167 181 168 169 170 171 397 67 398),
 (173, kF "is_told_open" 25 "notejar.names" 327 172),
 (179, kD "open_end" 400 401 402 71 2 3 174 181 175 176 177 178 405 71 406),
 (180, kF "open_end" 26 "notejar.names" 327 179),
 (186, kD "find_open_end" 408 409 410 75 2 3 181 181 182 183 184 185 415 75 416),
 (187, kF "find_open_end" 27 "notejar.names" 327 186),
 (193, kD "own_end" 418 419 420 84 2 3 188 181 189 190 191 192 423 84 424),
 (194, kF "own_end" 28 "notejar.names" 327 193),
 (200, kD "find_own_end" 426 427 428 88 2 3 195 181 196 197 198 199 434 88 435),
 (201, kF "find_own_end" 29 "notejar.names" 327 200),
 (207, kD "_law_cell" 439 440 441 96 2 3 202 181 203 204 205 206 444 96 445),
 (208, kF "_law_cell" 31 "law_notejar_k02_tables" 437 207),
 (214, kD "_law_drawn" 447 448 449 100 3 3 209 181 210 211 212 213 454 100 455),
 (215, kF "_law_drawn" 32 "law_notejar_k02_tables" 437 214),
 (221, kD "_law_name" 457 458 459 104 2 3 216 181 217 218 219 220 463 104 464),
 (222, kF "_law_name" 33 "law_notejar_k02_tables" 437 221),
 (226, kC "_law_table" 466 467 468 108 2 3 223 181 224 225 469 108 470),
 (227, kF "_law_table" 34 "law_notejar_k02_tables" 437 226),
 (245, kC "_law_ends" 490 491 492 117 1 3 242 181 243 244 493 117 494),
 (246, kF "_law_ends" 37 "law_notejar_k02_tables" 437 245),
 (250, kC "_law_open" 496 497 498 120 2 3 247 181 248 249 499 120 500),
 (251, kF "_law_open" 38 "law_notejar_k02_tables" 437 250),
 (255, kC "_law_own" 502 503 504 127 2 3 252 181 253 254 505 127 506),
 (256, kF "_law_own" 39 "law_notejar_k02_tables" 437 255),
 (283, kD "_law_refused" 532 533 534 139 1 3 278 181 279 280 281 282 537 139 538),
 (284, kF "_law_refused" 43 "law_notejar_k02_tables" 437 283),
 (290, kD "_law_told" 540 541 542 146 3 3 285 181 286 287 288 289 547 146 548),
 (291, kF "_law_told" 44 "law_notejar_k02_tables" 437 290),
 (297, kD "_law_is_rule" 550 551 552 151 1 3 292 181 293 294 295 296 554 151 555),
 (298, kF "_law_is_rule" 45 "law_notejar_k02_tables" 437 297),
 (302, kC "_law_is_table" 557 558 559 159 1 3 299 181 300 301 560 159 561),
 (303, kF "_law_is_table" 46 "law_notejar_k02_tables" 437 302),
 (307, kC "law" 563 564 565 165 1 3 304 181 305 306 566 165 567),
 (308, kF "law" 47 "law_notejar_k02_tables" 437 307)]
noncomputable def KK (P : Params) : Frag := KKa P ++ KKb P
noncomputable def KAa : List Addr := [2, 3, 23, 24, 36, 37, 48, 49, 60, 61, 72, 73, 84, 85, 96, 97, 108, 109, 115, 116, 122, 123, 127, 128, 134, 135, 139, 140, 146, 147, 153, 154, 158, 159, 165]
noncomputable def KAb : List Addr := [166, 172, 173, 179, 180, 186, 187, 193, 194, 200, 201, 207, 208, 214, 215, 221, 222, 226, 227, 245, 246, 250, 251, 255, 256, 283, 284, 290, 291, 297, 298, 302, 303, 307, 308]
noncomputable def KA : List Addr := KAa ++ KAb
theorem KA_ok (P : Params) : KA = (KK P).map (·.1) := by kernel_rfl
noncomputable def VQ : Program := view PySem.Challenge.pw_notejar_k02_tables [47]
noncomputable def VL : List Str := [Str.ofString "JarError", Str.ofString "NoName", Str.ofString "NoTable", Str.ofString "NoPath", Str.ofString "NoAsk", Str.ofString "NoNote", Str.ofString "NoJar", Str.ofString "NoNumber", Str.ofString "is_text_of", Str.ofString "FIGURES", Str.ofString "LABEL_SIGNS", Str.ofString "LONGEST_LABEL", Str.ofString "MOST_LABELS", Str.ofString "MOST_RULES", Str.ofString "is_label", Str.ofString "is_name", Str.ofString "is_rule", Str.ofString "is_table", Str.ofString "need_name", Str.ofString "need_table", Str.ofString "ends_longest_first", Str.ofString "behind_first_dot", Str.ofString "is_told_open", Str.ofString "open_end", Str.ofString "find_open_end", Str.ofString "own_end", Str.ofString "find_own_end", Str.ofString "_law_cell", Str.ofString "_law_drawn", Str.ofString "_law_name", Str.ofString "_law_table", Str.ofString "_law_path", Str.ofString "_law_ask", Str.ofString "_law_ends", Str.ofString "_law_open", Str.ofString "_law_own", Str.ofString "_law_within", Str.ofString "_law_under", Str.ofString "_law_near", Str.ofString "_law_refused", Str.ofString "_law_told", Str.ofString "_law_is_rule", Str.ofString "_law_is_table"]
theorem both {α β γ : Type} {o : Option α} {f : α → β} {g : α → γ} {a : β} {b : γ} (h1 : o.map f = some a) (h2 : o.map g = some b) : o.map (fun s => (f s, g s)) = some (a, b) := by
  cases o with
  | none => cases h1
  | some x => cases h1; cases h2; rfl
set_option maxRecDepth 100000 in
set_option maxHeartbeats 0 in
theorem left1 (w : World) : (openEnds treeTable PySem.Challenge.pw_notejar_k02_tables w 5434).map (openSeen VQ VL (importedModules PySem.Challenge.pw_notejar_k02_tables.main.body) (fun s => recOk [] s) true) = some (openGood VQ VL) := by kernel_rfl
set_option maxRecDepth 100000 in
set_option maxHeartbeats 0 in
theorem left2a (w : World) : (openEnds treeTable PySem.Challenge.pw_notejar_k02_tables w 5434).map (fun s => KAa.map s.heap.get?) = some ((KKa w.params).map fun p => some p.2) := by kernel_rfl
set_option maxRecDepth 100000 in
set_option maxHeartbeats 0 in
theorem left2b (w : World) : (openEnds treeTable PySem.Challenge.pw_notejar_k02_tables w 5434).map (fun s => KAb.map s.heap.get?) = some ((KKb w.params).map fun p => some p.2) := by kernel_rfl
theorem both_app {α β γ : Type} {o : Option α} {f : α → β → γ} {A B : List β} {X Y : List γ} (h1 : o.map (fun s => A.map (f s)) = some X) (h2 : o.map (fun s => B.map (f s)) = some Y) : o.map (fun s => (A ++ B).map (f s)) = some (X ++ Y) := by
  cases o with
  | none => cases h1
  | some x => cases h1; cases h2; simp
theorem left2 (w : World) : (openEnds treeTable PySem.Challenge.pw_notejar_k02_tables w 5434).map (fun s => KA.map s.heap.get?) = some ((KK w.params).map fun p => some p.2) := by
  show (openEnds treeTable PySem.Challenge.pw_notejar_k02_tables w 5434).map (fun s => (KAa ++ KAb).map s.heap.get?) = some ((KKa w.params ++ KKb w.params).map fun p => some p.2)
  rw [List.map_append]
  exact both_app (f := fun s : Shared => s.heap.get?) (left2a w) (left2b w)
theorem left : LeftO PySem.Challenge.pw_notejar_k02_tables VQ VL (fun s => recOk [] s) (Hook.obs (kHook KK KA KA_ok)) (Hook.val (kHook KK KA KA_ok)) 5434 := fun w => both (left1 w) (left2 w)
end G
set_option Elab.async false
set_option linter.all false
set_option maxRecDepth 100000
namespace L2
open PySem PySem.Spec PyProof.Rows
abbrev Key := Sum Int Str
def keyIs : Key → Value → Bool
  | .inl k, v => Value.isInt k v
  | .inr x, v => Value.isStrOf x v
def keyH (w : World) : Key → Int
  | .inl k => hashInt k
  | .inr x => hashStr w x
theorem keyIs_shape : ∀ {k : Key} {v : Value}, keyIs k v = true → (∃ i t, k = Sum.inl i ∧ v = Value.int i t) ∨ (∃ x t, k = Sum.inr x ∧ v = Value.str x t)
  | .inl i, v, h => by
    obtain ⟨t, e⟩ := Value.isInt_shape (k := i) (v := v) h
    exact .inl ⟨i, t, rfl, e⟩
  | .inr x, v, h => by
    obtain ⟨t, e⟩ := Value.isStrOf_shape (x := x) (v := v) h
    exact .inr ⟨x, t, rfl, e⟩
theorem key_ll (a b : Int) : decide ((Sum.inl a : Key) = Sum.inl b) = (a == b) := by
  by_cases e : a = b
  · subst e; simp
  · have h : ¬ (Sum.inl a : Key) = Sum.inl b := fun q => e (Sum.inl.inj q)
    rw [decide_eq_false h]
    exact (beq_eq_false_iff_ne.mpr e).symm
theorem key_rr (a b : Str) : decide ((Sum.inr a : Key) = Sum.inr b) = decide (a = b) := by
  by_cases e : a = b
  · subst e; simp
  · have h : ¬ (Sum.inr a : Key) = Sum.inr b := fun q => e (Sum.inr.inj q)
    rw [decide_eq_false h, decide_eq_false e]
theorem key_lr (a : Int) (b : Str) : decide ((Sum.inl a : Key) = Sum.inr b) = false := decide_eq_false (fun q => nomatch q)
theorem key_rl (a : Str) (b : Int) : decide ((Sum.inr a : Key) = Sum.inl b) = false := decide_eq_false (fun q => nomatch q)
def mixKind (prog : Program) (w : World) : PySem.KeyKind prog w Key where
  is := keyIs
  hash := keyH w
  inj := fun v a b ha hb => by
    rcases keyIs_shape ha with ⟨i, t, rfl, rfl⟩ | ⟨x, t, rfl, rfl⟩
    · rcases keyIs_shape hb with ⟨j, u, rfl, e⟩ | ⟨y, u, rfl, e⟩
      · injection e with e1 _; rw [e1]
      · exact nomatch e
    · rcases keyIs_shape hb with ⟨j, u, rfl, e⟩ | ⟨y, u, rfl, e⟩
      · exact nomatch e
      · injection e with e1 _; rw [e1]
  byValue := fun k v h => by
    rcases keyIs_shape h with ⟨i, t, rfl, rfl⟩ | ⟨x, t, rfl, rfl⟩ <;> rfl
  pyHash := fun hv h => by
    rcases keyIs_shape hv with ⟨i, t, rfl, rfl⟩ | ⟨x, t, rfl, rfl⟩
    · exact wpAny_pyHash_int h
    · exact wpAny_pyHash_str h
  eqBool := fun hu hv h => by
    rcases keyIs_shape hu with ⟨i, t, rfl, rfl⟩ | ⟨x, t, rfl, rfl⟩
    · rcases keyIs_shape hv with ⟨j, u, rfl, rfl⟩ | ⟨y, u, rfl, rfl⟩
      · rw [key_ll] at h; exact wpAny_eqBool_int h
      · rw [key_lr] at h; exact SeqAt.EqAt.int_str i t y u _ _ _ _ h
    · rcases keyIs_shape hv with ⟨j, u, rfl, rfl⟩ | ⟨y, u, rfl, rfl⟩
      · rw [key_rl] at h; exact SeqAt.EqAt.str_int x t j u _ _ _ _ h
      · rw [key_rr] at h; exact wpAny_eqBool_str h
  «strs» := fun k x t v h => by
    rcases keyIs_shape h with ⟨i, u, rfl, e⟩ | ⟨y, u, rfl, e⟩
    · exact nomatch e
    · injection e with e1 _
      subst e1
      cases v <;> rfl
end L2
namespace L2
open PySem PySem.Spec PyProof.Rows
inductive V where
  | non | bl (b : Bool) | int (i : Int) | str (x : Str) | byt (b : Array UInt8) | flt (b : UInt64) | ref (a : Addr) | ty (n : String)
  deriving DecidableEq
def RelV : V → Value → Prop
  | .non, u => u = Value.none
  | .bl b, u => u = Value.bool b
  | .int i, u => ∃ t, u = Value.int i t
  | .str x, u => ∃ t, u = Value.str x t
  | .byt b, u => ∃ t, u = Value.bytes b t
  | .flt b, u => ∃ t, u = Value.float b t
  | .ref a, u => u = Value.ref a
  | .ty n, u => u = Value.type n
abbrev Vals : List V → List Value → Prop := Paired RelV
theorem Vals.length {xs : List V} {us : List Value} (r : Vals xs us) : xs.length = us.length := Paired.length r
theorem Vals.get : ∀ {xs : List V} {us : List Value} {i : Nat} {x : V}, Vals xs us → xs[i]? = some x → ∃ u, us[i]? = some u ∧ RelV x u
  | _, _, _, _, .nil, e => by simp at e
  | _, _, 0, _, .cons r _, e => by simp at e; subst e; exact ⟨_, rfl, r⟩
  | _, _, i + 1, x, .cons _ t, e => by
    obtain ⟨u, h1, h2⟩ := Vals.get (i := i) (x := x) t (by simpa using e)
    exact ⟨u, by simpa using h1, h2⟩
theorem Vals.set {x : V} {u : Value} (r : RelV x u) : ∀ {xs : List V} {us : List Value} (i : Nat), Vals xs us → Vals (xs.set i x) (us.set i u)
  | _, _, _, .nil => .nil
  | _, _, 0, .cons _ t => .cons r t
  | _, _, i + 1, .cons q t => .cons q (Vals.set r i t)
theorem Vals.append : ∀ {xs ys : List V} {us ws : List Value}, Vals xs us → Vals ys ws → Vals (xs ++ ys) (us ++ ws)
  | _, _, _, _, .nil, s => s
  | _, _, _, _, .cons r t, s => .cons r (Vals.append t s)
theorem Vals.take : ∀ {xs : List V} {us : List Value} (n : Nat), Vals xs us → Vals (xs.take n) (us.take n)
  | _, _, 0, _ => .nil
  | _, _, _ + 1, .nil => .nil
  | _, _, n + 1, .cons r t => .cons r (Vals.take n t)
theorem Vals.drop : ∀ {xs : List V} {us : List Value} (n : Nat), Vals xs us → Vals (xs.drop n) (us.drop n)
  | _, _, 0, r => r
  | _, _, _ + 1, .nil => .nil
  | _, _, n + 1, .cons _ t => Vals.drop n t
theorem Vals.none_of : ∀ {xs : List V} {us : List Value} {i : Nat}, Vals xs us → xs[i]? = none → us[i]? = none := fun {xs us i} r e => by
  have h1 := r.length
  have h2 : xs.length ≤ i := List.getElem?_eq_none_iff.mp e
  exact List.getElem?_eq_none_iff.mpr (by omega)
def RelO : Option V → Option Value → Prop
  | some v, some u => RelV v u
  | none, none => True
  | _, _ => False
def KV {κ : Type} : List (κ × V) → List (κ × Value) → Prop := Paired fun (p : κ × V) (q : κ × Value) => p.1 = q.1 ∧ RelV p.2 q.2
def kV : Key → V
  | .inl i => .int i
  | .inr x => .str x
inductive HO where
  | lst (xs : List V)
  | tup (xs : List V)
  | dK (kvs : List (Key × V)) | dT (kvs : List (List Key × V))
  | set (S : Int → Bool) (n : Nat)
  | ins (C dx : Addr) (fs : List (Str × V))
  | own (x : Addr)
  | xd (fs : List (Str × V))
  | met (f x : Addr)
  | rng (lo hi : Int)
  | frz (o : Obj) (u : HO)
  | tbl (ps : Array Value)
  | ext (φ : Heap → Prop)
abbrev Hp := Addr → Option HO
def upd (H : Hp) (a : Addr) (o : HO) : Hp := fun b => if b = a then some o else H b
theorem upd_same {H : Hp} {a : Addr} {o : HO} : upd H a o a = some o := by unfold upd; rw [if_pos rfl]
theorem upd_ne {H : Hp} {a b : Addr} {o : HO} (h : b ≠ a) : upd H a o b = H b := by unfold upd; rw [if_neg h]
theorem upd_upd {H : Hp} {a : Addr} {o u : HO} : upd (upd H a o) a u = upd H a u := by
  funext b; unfold upd; split <;> rfl
theorem ne_of_none {H : Hp} {a b : Addr} {o : HO} (h : H a = some o) (h' : H b = none) : a ≠ b := by
  intro e; subst e; rw [h] at h'; cases h'
section
variable (P : Program) (w : World)
def ObjOk (H : Hp) (h : Heap) (a : Addr) : HO → Prop
  | .lst xs => xs.length ≤ sizeLine ∧ ∃ (its : List Value) (n : Nat), Vals xs its ∧ h.get? a = some { cls := .type "list", data := .seq its.toArray n }
  | .tup xs => xs.length ≤ sizeLine ∧ ∃ its : List Value, Vals xs its ∧ IsTup h a its.toArray
  | .dK kvs => kvs.length ≤ sizeLine ∧ (a == sysModules) = false ∧ ∃ vs, KV kvs vs ∧ h.DictOf (mixKind P w) a vs
  | .dT kvs => kvs.length ≤ sizeLine ∧ (a == sysModules) = false ∧ ∃ xs : List (List Key × Addr × Value),
      Paired (fun (p : List Key × V) (q : List Key × Addr × Value) => p.1 = q.1 ∧ H q.2.1 = some (.tup (p.1.map kV)) ∧ RelV p.2 q.2.2) kvs xs ∧
      ∃ o es ep, h.get? a = some o ∧ o.ExactDict ∧ o.data = .dict es ep ∧ es.toList = xs.map (entryOfKey (tupleKind (mixKind P w))) ∧ (xs.map (·.1)).Nodup
  | .set S n => h.SetOf (intKind P w) a S n
  | .ins C dx fs => H dx = some (.own a) ∧ fs.length ≤ 1000 ∧ dx ≠ a ∧ h.get? a = some (PySem.W.instObj C dx) ∧
      ∃ mA, h.Ns1 dx mA ∧ (∀ f, RelO (fs.lookup f) (mA f)) ∧ PySem.Within mA (fs.map (·.1))
  | .own _ => ∃ o, h.get? a = some o
  | .xd fs => ∃ mA, h.Ns1 a mA ∧ ∀ f, RelO (fs.lookup f) (mA f)
  | .rng lo hi => ∃ t u v, h.get? a = some { cls := .type "range", data := .fields #[.int lo t, .int hi u, .int 1 v] }
  | .frz o u => h.get? a = some o ∧ ObjOk H h a u
  | .tbl ps => h.get? a = some { cls := .none, data := .fields ps }
  | .met f x => h.get? a = some (PySem.W.methodObj (.ref f) (.ref x))
  | .ext φ => φ h ∧ (∃ o, h.get? a = some o) ∧ ∀ h1 h2 : Heap, φ h1 → (∀ o, h1.get? a = some o → h2.get? a = some o) → φ h2
def HOk (H : Hp) (h : Heap) : Prop := ∀ a o, H a = some o → ObjOk P w H h a o
end
section
variable {P : Program} {w : World} {H H' : Hp} {h h' : Heap} {a : Addr} {o : HO}
theorem ObjOk.lt (x : ObjOk P w H h a o) : a < h.objs.size := by
  cases o with
  | lst xs => obtain ⟨_, _, _, _, e⟩ := x; exact Heap.lt_size e
  | tup xs => obtain ⟨_, _, _, p⟩ := x; exact p.lt
  | dK kvs => obtain ⟨_, _, _, _, o, _, _, e, _⟩ := x; exact Heap.lt_size e
  | dT kvs => obtain ⟨_, _, _, _, o, _, _, e, _⟩ := x; exact Heap.lt_size e
  | set S n => obtain ⟨o, _, _, _, e, _⟩ := x; exact Heap.lt_size e
  | ins C dx fs => obtain ⟨_, _, _, e, _⟩ := x; exact Heap.lt_size e
  | own y => obtain ⟨_, e⟩ := x; exact Heap.lt_size e
  | xd fs => obtain ⟨_, ⟨_, _, _, e, _⟩, _⟩ := x; exact Heap.lt_size e
  | rng lo hi => obtain ⟨_, _, _, e⟩ := x; exact Heap.lt_size e
  | frz ob u => obtain ⟨e, _⟩ := x; exact Heap.lt_size e
  | tbl ps => exact Heap.lt_size (show h.get? a = some _ from x)
  | met f y => exact Heap.lt_size (show h.get? a = some _ from x)
  | ext φ => obtain ⟨_, ⟨_, e⟩, _⟩ := x; exact Heap.lt_size e
theorem Paired.mapP {α β : Type} {F G : α → β → Prop} : ∀ {l₁ : List α} {l₂ : List β}, Paired F l₁ l₂ → (∀ a b, F a b → G a b) → Paired G l₁ l₂
  | _, _, .nil, _ => .nil
  | _, _, .cons r t, f => .cons (f _ _ r) (Paired.mapP t f)
theorem ObjOk.stay (x : ObjOk P w H h a o) (k : ∀ b u, (b = a ∨ H b = some (.own a)) → h.get? b = some u → h'.get? b = some u)
    (ho : ∀ b, H b = some (.own a) → H' b = some (.own a)) (ht : ∀ b xs, H b = some (.tup xs) → H' b = some (.tup xs)) : ObjOk P w H' h' a o := by
  induction o with
  | lst xs => obtain ⟨z, its, n, r, e⟩ := x; exact ⟨z, its, n, r, k _ _ (.inl rfl) e⟩
  | tup xs => obtain ⟨z, its, r, ob, e, c⟩ := x; exact ⟨z, its, r, ob, k _ _ (.inl rfl) e, c⟩
  | dK kvs => obtain ⟨z, y, vs, r, ob, es, ep, e, c⟩ := x; exact ⟨z, y, vs, r, ob, es, ep, k _ _ (.inl rfl) e, c⟩
  | dT kvs =>
    obtain ⟨z, y, xs, r, ob, es, ep, e, c⟩ := x
    exact ⟨z, y, xs, Paired.mapP r fun p q z => ⟨z.1, ht _ _ z.2.1, z.2.2⟩, ob, es, ep, k _ _ (.inl rfl) e, c⟩
  | set S n => obtain ⟨ob, es, ep, t, e, c⟩ := x; exact ⟨ob, es, ep, t, k _ _ (.inl rfl) e, c⟩
  | ins C dx fs =>
    obtain ⟨d, z, ne, e, mA, ⟨od, es, ep, e2, c⟩, r⟩ := x
    exact ⟨ho _ d, z, ne, k _ _ (.inl rfl) e, mA, ⟨od, es, ep, k _ _ (.inr d) e2, c⟩, r⟩
  | own y => obtain ⟨ob, e⟩ := x; exact ⟨ob, k _ _ (.inl rfl) e⟩
  | xd fs => obtain ⟨mA, ⟨od, es, ep, e, c⟩, r⟩ := x; exact ⟨mA, ⟨od, es, ep, k _ _ (.inl rfl) e, c⟩, r⟩
  | rng lo hi => obtain ⟨t, u, v, e⟩ := x; exact ⟨t, u, v, k _ _ (.inl rfl) e⟩
  | frz ob u ih => obtain ⟨e, q⟩ := x; exact ⟨k _ _ (.inl rfl) e, ih q⟩
  | tbl ps =>
    have e : h.get? a = some { cls := .none, data := .fields ps } := x
    show h'.get? a = some { cls := .none, data := .fields ps }
    exact k a _ (.inl rfl) e
  | met f y =>
    have e : h.get? a = some (PySem.W.methodObj (.ref f) (.ref y)) := x
    show h'.get? a = some (PySem.W.methodObj (.ref f) (.ref y))
    exact k a _ (.inl rfl) e
  | ext φ => obtain ⟨p, ⟨o, e⟩, st⟩ := x; exact ⟨st _ _ p fun o q => k _ _ (.inl rfl) q, ⟨o, k _ _ (.inl rfl) e⟩, st⟩
theorem HOk.lt (x : HOk P w H h) (e : H a = some o) : a < h.objs.size := (x a o e).lt
theorem HOk.fresh (x : HOk P w H h) (e : h.objs.size ≤ a) : H a = none := by
  cases q : H a with
  | none => rfl
  | some u => exact absurd (Nat.lt_of_lt_of_le (x.lt q) e) (Nat.lt_irrefl _)
theorem HOk.kept (x : HOk P w H h) (k : ∀ b u, h.get? b = some u → h'.get? b = some u) : HOk P w H h' := fun a o e =>
  (x a o e).stay (fun b u _ q => k b u q) (fun _ q => q) fun _ _ q => q
theorem HOk.laid (x : HOk P w H h) (k : ∀ b u, h.get? b = some u → h'.get? b = some u) (hp : h.objs.size ≤ a) (new : ObjOk P w (upd H a o) h' a o) : HOk P w (upd H a o) h' := fun b u e => by
  have hn := x.fresh hp
  by_cases hb : b = a
  · subst hb; rw [upd_same] at e; cases e; exact new
  · rw [upd_ne hb] at e
    exact (x b u e).stay (fun c v _ q => k c v q) (fun c q => by rw [upd_ne (ne_of_none q hn)]; exact q) fun c xs q => by rw [upd_ne (ne_of_none q hn)]; exact q
end
def Rd (H : Hp) (a : Addr) (u : HO) : Prop := H a = some u ∨ ∃ o, H a = some (.frz o u)
theorem Rd.of {H : Hp} {a : Addr} {u : HO} (h : H a = some u) : Rd H a u := .inl h
theorem Rd.ok {P : Program} {w : World} {H : Hp} {h : Heap} {a : Addr} {u : HO} (r : Rd H a u) (x : HOk P w H h) : ObjOk P w H h a u := by
  rcases r with r | ⟨o, r⟩
  · exact x a u r
  · obtain ⟨_, q⟩ := x a _ r
    exact q
def Mut : Option HO → Prop
  | some (.lst _) => True
  | some (.dK _) => True
  | some (.dT _) => True
  | some (.set _ _) => True
  | some (.ins _ _ _) => True
  | some (.ext _) => True
  | _ => False
section
variable {P : Program} {w : World} {H : Hp} {h h' : Heap} {x e : Addr} {o' : HO}
theorem HOk.write (ok : HOk P w H h) (mu : Mut (H x)) (he : e = x ∨ H e = some (.own x)) (k : ∀ b u, b ≠ e → h.get? b = some u → h'.get? b = some u) (heo : ∃ u, h'.get? e = some u)
    (new : ObjOk P w (upd H x o') h' x o') : HOk P w (upd H x o') h' := fun b u q => by
  have nown : ∀ c y, H c = some (.own y) → c ≠ x := fun c y r z => by subst z; rw [r] at mu; exact mu
  have ntup : ∀ c xs, H c = some (.tup xs) → c ≠ x := fun c xs r z => by subst z; rw [r] at mu; exact mu
  by_cases hb : b = x
  · subst hb; rw [upd_same] at q; cases q; exact new
  · rw [upd_ne hb] at q
    by_cases hbe : b = e
    · have q' : H b = some (.own x) := by
        rcases he with z | z
        · exact absurd (hbe.trans z) hb
        · rw [hbe]; exact z
      rw [q] at q'; cases q'
      obtain ⟨v, hv⟩ := heo
      exact ⟨v, by rw [hbe]; exact hv⟩
    · refine (ok b u q).stay (fun c v hc r => k c v ?_ r) (fun c r => by rw [upd_ne (nown c b r)]; exact r) fun c xs r => by rw [upd_ne (ntup c xs r)]; exact r
      rcases hc with rfl | hc
      · exact hbe
      · rintro rfl
        rcases he with z | z
        · exact nown c b hc z
        · rw [hc] at z; cases z; exact hb rfl
end
structure Un (fs ex : List Addr) (H H' : Hp) (h h' : Heap) : Prop where
  keep : ∀ b o, h.get? b = some o → H b = none → b ∉ fs → b ∉ ex → h'.get? b = some o
  slot : ∀ b o, h.get? b = some o → H b = none → b ∈ fs → b ∉ ex → ∃ sl, h'.get? b = some { o with slots := sl }
  free : ∀ b o, h.get? b = some o → H b = none → b ∉ ex → H' b = none
  there : ∀ b o, h.get? b = some o → b ∉ ex → ∃ o', h'.get? b = some o'
  tups : ∀ b xs, H b = some (.tup xs) → H' b = some (.tup xs)
  frzs : ∀ b o u, H b = some (.frz o u) → H' b = some (.frz o u)
  tbls : ∀ b ps, H b = some (.tbl ps) → ∃ more, H' b = some (.tbl (ps ++ more))
section
variable {fs fs' ex ex' : List Addr} {H H1 H2 : Hp} {h h1 h2 h' : Heap} {a x e : Addr} {o : HO}
theorem Un.any (u : Un fs ex H H1 h h1) {b : Addr} {ob : Obj} (q : h.get? b = some ob) (n : H b = none) (hx : b ∉ ex) : ∃ sl, h1.get? b = some { ob with slots := sl } := by
  by_cases hb : b ∈ fs
  · exact u.slot b ob q n hb hx
  · exact ⟨ob.slots, u.keep b ob q n hb hx⟩
theorem Un.trans (a : Un fs ex H H1 h h1) (b : Un fs ex H1 H2 h1 h2) : Un fs ex H H2 h h2 where
  keep := fun c ob q n hc hx => b.keep c ob (a.keep c ob q n hc hx) (a.free c ob q n hx) hc hx
  slot := fun c ob q n hc hx => by
    obtain ⟨sl, e1⟩ := a.slot c ob q n hc hx
    obtain ⟨sl', e2⟩ := b.slot c _ e1 (a.free c ob q n hx) hc hx
    exact ⟨sl', e2⟩
  free := fun c ob q n hx => by
    obtain ⟨o', e1⟩ := a.there c ob q hx
    exact b.free c o' e1 (a.free c ob q n hx) hx
  there := fun c ob q hx => by
    obtain ⟨o', e1⟩ := a.there c ob q hx
    exact b.there c o' e1 hx
  tups := fun c xs q => b.tups c xs (a.tups c xs q)
  frzs := fun c ob xs q => b.frzs c ob xs (a.frzs c ob xs q)
  tbls := fun c ps q => by
    obtain ⟨m1, e1⟩ := a.tbls c ps q
    obtain ⟨m2, e2⟩ := b.tbls c _ e1
    exact ⟨m1 ++ m2, by rw [e2, Array.append_assoc]⟩
theorem Un.kept (k : ∀ b u, h.get? b = some u → h'.get? b = some u) : Un fs ex H H h h' :=
  ⟨fun b ob q _ _ _ => k b ob q, fun b ob q _ _ _ => ⟨ob.slots, k b ob q⟩, fun _ _ _ n _ => n, fun b ob q _ => ⟨ob, k b ob q⟩, fun _ _ q => q, fun _ _ _ q => q, fun _ ps q => ⟨#[], by rw [q]; simp⟩⟩
theorem Un.refl : Un fs ex H H h h := Un.kept fun _ _ q => q
theorem Un.laid (k : ∀ b u, h.get? b = some u → h'.get? b = some u) (hp : h.objs.size ≤ a) (hn : H a = none) : Un fs ex H (upd H a o) h h' where
  keep := fun b u q _ _ _ => k b u q
  slot := fun b u q _ _ _ => ⟨u.slots, k b u q⟩
  free := fun b u q n _ => by rw [upd_ne (Nat.ne_of_lt (Nat.lt_of_lt_of_le (Heap.lt_size q) hp))]; exact n
  there := fun b u q _ => ⟨u, k b u q⟩
  tups := fun b xs q => by rw [upd_ne (ne_of_none q hn)]; exact q
  frzs := fun b u xs q => by rw [upd_ne (ne_of_none q hn)]; exact q
  tbls := fun b ps q => ⟨#[], by rw [upd_ne (ne_of_none q hn), q]; simp⟩
theorem Un.write (mu : Mut (H x)) (he : e = x ∨ H e = some (.own x)) (k : ∀ b u, b ≠ e → h.get? b = some u → h'.get? b = some u) (heo : ∃ u, h'.get? e = some u) : Un fs ex H (upd H x o) h h' := by
  have hx : ∀ b, H b = none → b ≠ x := fun b n z => by subst z; rw [n] at mu; exact mu
  have hb : ∀ b, H b = none → b ≠ e := fun b n z => by
    subst z
    rcases he with r | r
    · exact hx b n r
    · rw [n] at r; cases r
  have hm : ∀ b u, H b = some u → ¬ Mut (some u) → b ≠ x := fun b u q nm z => by subst z; rw [q] at mu; exact nm mu
  refine ⟨fun b u q n _ _ => k b u (hb b n) q, fun b u q n _ _ => ⟨u.slots, k b u (hb b n) q⟩, fun b u q n _ => by rw [upd_ne (hx b n)]; exact n, fun b u q _ => ?_,
    fun b xs q => by rw [upd_ne (hm b _ q fun z => z)]; exact q, fun b u xs q => by rw [upd_ne (hm b _ q fun z => z)]; exact q, fun b ps q => ⟨#[], by rw [upd_ne (hm b _ q fun z => z), q]; simp⟩⟩
  by_cases hbe : b = e
  · subst hbe; exact heo
  · exact ⟨u, k b u hbe q⟩
theorem Un.mono (u : Un fs ex H H1 h h1) (hs : ∀ b ∈ fs, b ∈ fs') (hx : ∀ b ∈ ex, b ∈ ex') : Un fs' ex' H H1 h h1 :=
  ⟨fun b ob q n hb he => u.keep b ob q n (fun z => hb (hs b z)) fun z => he (hx b z), fun _ _ q n _ he => u.any q n fun z => he (hx _ z), fun b ob q n he => u.free b ob q n fun z => he (hx b z), fun b ob q he => u.there b ob q fun z => he (hx b z), u.tups, u.frzs, u.tbls⟩
end
def trk (h : Heap) (H : Hp) : List Addr := (List.range h.objs.size).filter fun a => (H a).isSome
def hidT (h : Heap) (H : Hp) : Heap := PySem.W.hideAll h (trk h H)
theorem hidT_size (h : Heap) (H : Hp) : (hidT h H).objs.size = h.objs.size := PySem.W.hideAll_size _ _
theorem hidT_get {h : Heap} {H : Hp} {b : Addr} {o : Obj} (e : h.get? b = some o) (n : H b = none) : (hidT h H).get? b = some o :=
  PySem.W.hideAll_get _ e fun hm => by
    have q : (H b).isSome = true := (List.mem_filter.mp hm).2
    rw [n] at q; simp at q
theorem of_hidT {h : Heap} {H : Hp} {b : Addr} {o : Obj} (e : (hidT h H).get? b = some o) : h.get? b = some o ∧ H b = none := by
  have e' : h.get? b = some o := PySem.W.of_hideAll (trk h H) e
  refine ⟨e', ?_⟩
  cases q : H b with
  | none => rfl
  | some x =>
    have hm : b ∈ trk h H := List.mem_filter.mpr ⟨List.mem_range.mpr (Heap.lt_size e'), by simp [q]⟩
    have z : (hidT h H).get? b = none := PySem.W.hideAll_none (trk h H) hm
    rw [z] at e; cases e
def allNews (g h : Heap) (L : Addr) : List (Addr × Obj) := (List.range h.objs.size).filterMap fun a => if a = L ∨ (g.get? a).isSome = true then none else (h.get? a).map fun o => (a, o)
def rest (g h : Heap) (L d : Addr) : List (Addr × Obj) := (allNews g h L).filter fun p => decide (p.1 ≠ d)
end L2
namespace L2
open PySem PySem.Spec PyProof.Rows
structure Mod (K : PySem.W.Frag) (mg : Str → Option Value) (base : Heap) : Prop where
  kin : K.In base
  glob : base.Ns mainGlobals mg
  blt : ∃ mb, base.Ns builtinsNs mb ∧ ∀ x : Str, x ≠ "__name__" → mb x = bootBuiltins x
  nolimit : base.NoLimit
structure Cx where
  prog : Program
  w : World
  K : PySem.W.Frag
  mg : Str → Option Value
  base : Heap
  A : Around
  N : List Str
  s₀ : Shared
  H₀ : Hp
  env : Env
  outer : List Env
  stack : List Env
  ex : List Addr
  fn : Str → Bool
  calm : Bool
  pn : List (Addr × Obj)
  xe : Value → Shared → Prop
def frs (l : List Env) : List Addr := l.filterMap (·.frame)
abbrev Cx.fs (X : Cx) : List Addr := frs X.outer
def Vis (sc : Scope) (x : Str) : Prop := sc.names.lookup x = some .local ∨ sc.names.lookup x = some .cell ∨ sc.names.lookup x = some .free
def Loc (sc : Scope) (x : Str) : Prop := sc.names.lookup x = some .local ∨ sc.names.lookup x = some .cell
def Look (env : Env) (h : Heap) (m : Str → Option Value) (x : Str) (u : Value) : Prop :=
  (env.kindOf x = some .local ∧ m x = some u) ∨ ((env.kindOf x = some .cell ∨ env.kindOf x = some .free) ∧ ∃ c, env.cells.lookup x = some c ∧ h.IsCell c (some u))
structure Cx.Ok (X : Cx) : Prop where
  mod : Mod X.K X.mg X.base
  kind : X.env.scope.kind = .function
  glob : X.env.globals = mainGlobals
  blt : X.env.builtins = builtinsNs
  above : X.s₀.heap.objs.size ≤ X.env.locals
  inj : ∀ x y c, X.env.cells.lookup x = some c → X.env.cells.lookup y = some c → x = y
  has : ∀ x, (X.env.kindOf x = some .cell ∨ X.env.kindOf x = some .free) → ∃ c, X.env.cells.lookup x = some c
  cab : ∀ x c, X.fn x = true → X.env.cells.lookup x = some c → X.s₀.heap.objs.size ≤ c
  hd : X.calm = true → X.A.handled = none
  frames : X.A.frames = some X.stack
  stk : X.stack = X.outer ∨ (X.stack = X.env :: X.outer ∧ X.env.frame = some X.env.locals)
  exf : ∀ b ∈ X.ex, b ≠ X.env.locals ∧ ∀ x c, X.env.cells.lookup x = some c → c ≠ b
  bs : ∀ b o, X.base.get? b = some o → X.s₀.heap.get? b = some o ∧ X.H₀ b = none
  bsz : X.base.objs.size ≤ X.s₀.heap.objs.size
  noex : ∀ b o, X.base.get? b = some o → b ∉ X.ex
  exfs : ∀ b ∈ X.ex, b ∉ X.fs
  funs : X.s₀.heap.FunFrames X.base X.outer
  frf : ∀ b ∈ X.fs, X.H₀ b = none
structure Inv (X : Cx) (pins : List (Addr × Obj)) (σ : List (Option V)) (H : Hp) (s : Shared) : Prop where
  ok : X.Ok
  os : s.os = X.s₀.os
  bare : AllBare s.gens
  base : Un X.fs X.ex X.H₀ H X.s₀.heap s.heap
  loc : ∃ m, s.heap.Ns X.env.locals m ∧ ∀ (i : Nat) (x : Str) (v : V), X.N[i]? = some x → σ[i]? = some (some v) → Vis X.env.scope x → ∃ u, RelV v u ∧ Look X.env s.heap m x u
  cell : ∀ x c, X.env.cells.lookup x = some c → ∃ v, s.heap.IsCell c v
  free : H X.env.locals = none
  freeC : ∀ x c, X.env.cells.lookup x = some c → H c = none
  pin : ∀ p ∈ X.pn ++ pins, s.heap.get? p.1 = some p.2 ∧ H p.1 = none ∧ p.1 ≠ X.env.locals ∧ p.1 ∉ X.fs ∧ ∀ v, p.2.data ≠ .cell v
  hok : HOk X.prog X.w H s.heap
  len : σ.length = X.N.length
section
variable {X : Cx} {pins : List (Addr × Obj)} {σ : List (Option V)} {H H' : Hp} {s : Shared} {h' : Heap}
theorem Cx.Ok.nofr (ok : X.Ok) {b : Addr} {o : Obj} (e : X.base.get? b = some o) : b ∉ X.fs := fun hb => by
  have := (ok.funs.mem hb).1
  rw [e] at this; cases this
theorem Inv.bs (I : Inv X pins σ H s) : ∀ b o, X.base.get? b = some o → s.heap.get? b = some o ∧ H b = none := fun b o e =>
  ⟨I.base.keep b o (I.ok.bs b o e).1 (I.ok.bs b o e).2 (I.ok.nofr e) (I.ok.noex b o e), I.base.free b o (I.ok.bs b o e).1 (I.ok.bs b o e).2 (I.ok.noex b o e)⟩
theorem Inv.bk (I : Inv X pins σ H s) : ∀ b o, X.base.get? b = some o → s.heap.get? b = some o := fun b o e => (I.bs b o e).1
theorem Inv.mod (I : Inv X pins σ H s) : Mod X.K X.mg X.base := I.ok.mod
theorem Inv.kIn (I : Inv X pins σ H s) : X.K.In s.heap := I.ok.mod.kin.keeps I.bk
theorem Inv.nolimit (I : Inv X pins σ H s) : s.heap.NoLimit := I.ok.mod.nolimit.keeps I.bk
theorem Inv.lt (I : Inv X pins σ H s) : X.env.locals < s.heap.objs.size := let ⟨_, hn, _⟩ := I.loc; hn.lt
theorem Inv.sz (I : Inv X pins σ H s) : X.s₀.heap.objs.size ≤ s.heap.objs.size := Nat.le_trans I.ok.above (Nat.le_of_lt I.lt)
theorem Inv.nofs (I : Inv X pins σ H s) {a : Addr} (h : s.heap.objs.size ≤ a) : a ∉ X.fs := fun hb => by
  obtain ⟨_, o, ho, _⟩ := I.ok.funs.mem hb
  exact absurd (Nat.lt_of_lt_of_le (Heap.lt_size ho) (Nat.le_trans I.sz h)) (Nat.lt_irrefl _)
theorem Inv.cne (I : Inv X pins σ H s) : ∀ x c, X.env.cells.lookup x = some c → c ≠ X.env.locals := fun x c e z => by
  obtain ⟨v, o, ho, hd⟩ := I.cell x c e
  obtain ⟨m, ⟨o', es, ep, ho', hd', _⟩, _⟩ := I.loc
  rw [z, ho'] at ho; cases ho; rw [hd'] at hd; cases hd
theorem Inv.funs (I : Inv X pins σ H s) : s.heap.FunFrames X.base X.outer := by
  have all : ∀ (l : List Env), (∀ b ∈ frs l, b ∈ X.fs) → X.s₀.heap.FunFrames X.base l → s.heap.FunFrames X.base l := by
    intro l
    induction l with
    | nil => intro _ _; trivial
    | cons env r ih =>
      intro hs hl
      obtain ⟨hk, ⟨L, o, hf, hn, ho, hd⟩, hr⟩ := hl
      have hL : L ∈ X.fs := hs L (by unfold frs; rw [List.filterMap_cons, hf]; exact List.mem_cons_self)
      obtain ⟨sl, e⟩ := I.base.slot L o ho (I.ok.frf L hL) hL fun z => I.ok.exfs L z hL
      exact ⟨hk, ⟨L, _, hf, hn, e, hd⟩, ih (fun b hb => hs b (by unfold frs; rw [List.filterMap_cons, hf]; exact List.mem_cons_of_mem _ hb)) hr⟩
  exact all X.outer (fun _ hb => hb) I.ok.funs
theorem Inv.stack (I : Inv X pins σ H s) : s.heap.FunFrames X.base X.stack := by
  rcases I.ok.stk with e | ⟨e, hf⟩
  · rw [e]; exact I.funs
  · rw [e]
    obtain ⟨m, hn, _⟩ := I.loc
    refine .cons (by rw [I.ok.kind]; decide) hf hn ?_ I.funs
    exact Heap.get?_none_of_le (Nat.le_trans I.ok.bsz I.ok.above)
theorem Inv.stkSub (I : Inv X pins σ H s) : ∀ b ∈ frs X.stack, b ∈ X.env.locals :: X.fs := fun b hb => by
  rcases I.ok.stk with e | ⟨e, hf⟩
  · rw [e] at hb; exact List.mem_cons_of_mem _ hb
  · rw [e] at hb
    unfold frs at hb
    rw [List.filterMap_cons, hf] at hb
    exact hb
theorem Inv.stkFree (I : Inv X pins σ H s) : ∀ b ∈ frs X.stack, H b = none := fun b hb => by
  rcases List.mem_cons.mp (I.stkSub b hb) with e | hb
  · rw [e]; exact I.free
  · obtain ⟨_, o, ho, _⟩ := I.ok.funs.mem hb
    exact I.base.free b o ho (I.ok.frf b hb) fun z => I.ok.exfs b z hb
theorem Inv.step {g' : Array GenState} {t' : Nat} {d' : Drawn} {ch : List Addr} (I : Inv X pins σ H s)
    (hch : ∀ b ∈ ch, (b ∈ X.ex ∨ X.s₀.heap.objs.size ≤ b) ∧ b ≠ X.env.locals ∧ (∀ x c, X.env.cells.lookup x = some c → c ≠ b) ∧ ∀ p ∈ X.pn ++ pins, p.1 ≠ b)
    (keep : ∀ b o, b ≠ X.env.locals → b ∉ X.fs → b ∉ ch → s.heap.get? b = some o → H b = none → h'.get? b = some o)
    (slot : ∀ b o, b ≠ X.env.locals → b ∈ X.fs → b ∉ ch → s.heap.get? b = some o → H b = none → ∃ sl, h'.get? b = some { o with slots := sl }) (free : ∀ b o, b ∉ ch → s.heap.get? b = some o → H b = none → H' b = none)
    (there : ∀ b o, b ∉ ch → s.heap.get? b = some o → ∃ o', h'.get? b = some o')
    (tups : ∀ b xs, H b = some (.tup xs) → H' b = some (.tup xs)) (frzs : ∀ b o u, H b = some (.frz o u) → H' b = some (.frz o u)) (tbls : ∀ b ps, H b = some (.tbl ps) → ∃ more, H' b = some (.tbl (ps ++ more)))
    (ns : ∀ m, s.heap.Ns X.env.locals m → h'.Ns X.env.locals m) (hok : HOk X.prog X.w H' h') (hg : AllBare g') :
    Inv X pins σ H' { s with heap := h', gens := g', drawn := d', toks := t' } := by
  have neL : ∀ b o, X.s₀.heap.get? b = some o → b ≠ X.env.locals := fun b o e => Nat.ne_of_lt (Nat.lt_of_lt_of_le (Heap.lt_size e) I.ok.above)
  have neC : ∀ b o, X.s₀.heap.get? b = some o → b ∉ X.ex → b ∉ ch := fun b o e hx hb => by
    rcases (hch b hb).1 with z | z
    · exact hx z
    · exact absurd (Nat.lt_of_lt_of_le (Heap.lt_size e) z) (Nat.lt_irrefl _)
  have cellK : ∀ x c, X.env.cells.lookup x = some c → ∀ v, s.heap.IsCell c v → h'.IsCell c v := fun x c e v ⟨o, ho, hd⟩ => by
    have nch : c ∉ ch := fun z => (hch c z).2.2.1 x c e rfl
    by_cases hc : c ∈ X.fs
    · obtain ⟨sl, q⟩ := slot c o (I.cne x c e) hc nch ho (I.freeC x c e)
      exact ⟨_, q, hd⟩
    · exact ⟨o, keep c o (I.cne x c e) hc nch ho (I.freeC x c e), hd⟩
  refine ⟨I.ok, I.os, hg, ⟨fun b o e n hb hx => ?_, fun b o e n hb hx => ?_, fun b o e n hx => ?_, fun b o e hx => ?_, fun b xs e => tups b xs (I.base.tups b xs e), fun b o xs e => frzs b o xs (I.base.frzs b o xs e), fun b ps e => ?_⟩, ?_, fun x c e => ?_, ?_, fun x c e => ?_, fun p hp => ?_, hok, I.len⟩
  · exact keep b o (neL b o e) hb (neC b o e hx) (I.base.keep b o e n hb hx) (I.base.free b o e n hx)
  · obtain ⟨sl, e1⟩ := I.base.slot b o e n hb hx
    obtain ⟨sl', e2⟩ := slot b _ (neL b o e) hb (neC b o e hx) e1 (I.base.free b o e n hx)
    exact ⟨sl', e2⟩
  · obtain ⟨o', e1⟩ := I.base.there b o e hx
    exact free b o' (neC b o e hx) e1 (I.base.free b o e n hx)
  · obtain ⟨o', e1⟩ := I.base.there b o e hx
    exact there b o' (neC b o e hx) e1
  · obtain ⟨m1, e1⟩ := I.base.tbls b ps e
    obtain ⟨m2, e2⟩ := tbls b _ e1
    exact ⟨m1 ++ m2, by rw [e2, Array.append_assoc]⟩
  · obtain ⟨m, hn, hl⟩ := I.loc
    refine ⟨m, ns m hn, fun i x v e1 e2 e3 => ?_⟩
    obtain ⟨u, r, l⟩ := hl i x v e1 e2 e3
    refine ⟨u, r, ?_⟩
    rcases l with l | ⟨k, c, e, z⟩
    · exact .inl l
    · exact .inr ⟨k, c, e, cellK x c e _ z⟩
  · obtain ⟨v, z⟩ := I.cell x c e
    exact ⟨v, cellK x c e v z⟩
  · obtain ⟨m, ⟨o, _, _, ho, _⟩, _⟩ := I.loc
    exact free _ o (fun z => (hch _ z).2.1 rfl) ho I.free
  · obtain ⟨v, o, ho, hd⟩ := I.cell x c e
    exact free c o (fun z => (hch c z).2.2.1 x c e rfl) ho (I.freeC x c e)
  · obtain ⟨e, n, ne, nf, d⟩ := I.pin p hp
    have nch : p.1 ∉ ch := fun z => (hch p.1 z).2.2.2 p hp rfl
    exact ⟨keep p.1 p.2 ne nf nch e n, free p.1 p.2 nch e n, ne, nf, d⟩
theorem Inv.un {t' : Nat} (I : Inv X pins σ H s) (u : Un X.fs [] H H' s.heap h') (hok : HOk X.prog X.w H' h') : Inv X pins σ H' { s with heap := h', toks := t' } := by
  obtain ⟨m, ⟨o, es, ep, ho, r⟩, _⟩ := id I.loc
  obtain ⟨sl, hL⟩ := u.any ho I.free (by simp)
  exact I.step (g' := s.gens) (d' := s.drawn) (ch := []) (fun _ z => nomatch z) (fun b o _ hb _ e n => u.keep b o e n hb (by simp)) (fun b o _ hb _ e n => u.slot b o e n hb (by simp)) (fun b o _ e n => u.free b o e n (by simp)) (fun b o _ e => u.there b o e (by simp)) u.tups u.frzs u.tbls (fun m' hm => by
    obtain ⟨o', es', ep', ho', r'⟩ := hm
    rw [ho] at ho'; cases ho'
    exact ⟨_, es', ep', hL, r'⟩) hok I.bare
theorem Inv.call {g' : Array GenState} {t' : Nat} {d' : Drawn} {ch : List Addr} (I : Inv X pins σ H s) (u : Un (frs X.stack) ch H H' s.heap h') (hok : HOk X.prog X.w H' h') (hg : AllBare g')
    (hch : ∀ b ∈ ch, (b ∈ X.ex ∨ X.s₀.heap.objs.size ≤ b) ∧ b ≠ X.env.locals ∧ (∀ x c, X.env.cells.lookup x = some c → c ≠ b) ∧ ∀ p ∈ X.pn ++ pins, p.1 ≠ b) :
    Inv X pins σ H' { s with heap := h', gens := g', drawn := d', toks := t' } := by
  obtain ⟨m, ⟨o, es, ep, ho, r⟩, _⟩ := id I.loc
  obtain ⟨sl, hL⟩ := u.any ho I.free fun z => (hch _ z).2.1 rfl
  exact I.step (ch := ch) hch (fun b o hL hb hc e n => u.keep b o e n (fun z => (List.mem_cons.mp (I.stkSub b z)).elim hL hb) hc) (fun b o _ _ hc e n => u.any e n hc) (fun b o hc e n => u.free b o e n hc) (fun b o hc e => u.there b o e hc) u.tups u.frzs u.tbls (fun m' hm => by
    obtain ⟨o', es', ep', ho', r'⟩ := hm
    rw [ho] at ho'; cases ho'
    exact ⟨_, es', ep', hL, r'⟩) hok hg
theorem Inv.turned {t' : Nat} {it : Addr} (I : Inv X pins σ H s) (k : ∀ b o, b ≠ it → s.heap.get? b = some o → h'.get? b = some o) (hn : H it = none) (hL : it ≠ X.env.locals)
    (h1 : it ∈ X.ex ∨ X.s₀.heap.objs.size ≤ it) (h2 : ∀ x c, X.env.cells.lookup x = some c → c ≠ it) (h3 : ∀ p ∈ X.pn ++ pins, p.1 ≠ it) : Inv X pins σ H { s with heap := h', toks := t' } := by
  have nit : ∀ b u, H b = some u → b ≠ it := fun b u e z => by rw [z, hn] at e; cases e
  refine I.step (g' := s.gens) (d' := s.drawn) (ch := [it]) (fun b hb => ?_) (fun b o _ _ hc e _ => k b o (fun z => hc (by simp [z])) e) (fun b o _ _ hc e _ => ⟨o.slots, k b o (fun z => hc (by simp [z])) e⟩) (fun _ _ _ _ n => n)
    (fun b o hc e => ⟨o, k b o (fun z => hc (by simp [z])) e⟩) (fun _ _ e => e) (fun _ _ _ e => e) (fun b ps e => ⟨#[], by rw [e]; simp⟩) (fun m hm => ?_) (fun b u e => ?_) I.bare
  · have e : b = it := by simpa using hb
    subst e
    exact ⟨h1, hL, h2, h3⟩
  · obtain ⟨o, es, ep, ho, r⟩ := hm
    exact ⟨o, es, ep, k _ o (Ne.symm hL) ho, r⟩
  · refine (I.hok b u e).stay (fun c v hc q => k c v ?_ q) (fun _ q => q) fun _ _ q => q
    rcases hc with z | z
    · rw [z]; exact nit b u e
    · exact nit c _ z
theorem Inv.tok (I : Inv X pins σ H s) (t : Nat) : Inv X pins σ H { s with toks := t } := I.un (h' := s.heap) (t' := t) Un.refl I.hok
theorem Inv.kept {t' : Nat} (I : Inv X pins σ H s) (k : ∀ b u, s.heap.get? b = some u → h'.get? b = some u) : Inv X pins σ H { s with heap := h', toks := t' } := I.un (Un.kept k) (I.hok.kept k)
theorem Inv.laid {a : Addr} {o : HO} {t' : Nat} (I : Inv X pins σ H s) (k : ∀ b u, s.heap.get? b = some u → h'.get? b = some u) (hp : s.heap.objs.size ≤ a) (new : ObjOk X.prog X.w (upd H a o) h' a o) :
    Inv X pins σ (upd H a o) { s with heap := h', toks := t' } := I.un (Un.laid k hp (I.hok.fresh hp)) (I.hok.laid k hp new)
theorem Inv.write {x e : Addr} {o : HO} {t' : Nat} (I : Inv X pins σ H s) (mu : Mut (H x)) (he : e = x ∨ H e = some (.own x)) (k : ∀ b u, b ≠ e → s.heap.get? b = some u → h'.get? b = some u) (heo : ∃ u, h'.get? e = some u)
    (new : ObjOk X.prog X.w (upd H x o) h' x o) : Inv X pins σ (upd H x o) { s with heap := h', toks := t' } := I.un (Un.write mu he k heo) (I.hok.write mu he k heo new)
theorem Inv.pins_of {pins' : List (Addr × Obj)} (I : Inv X pins σ H s) (h : ∀ p ∈ pins', s.heap.get? p.1 = some p.2 ∧ H p.1 = none ∧ p.1 ≠ X.env.locals ∧ p.1 ∉ X.fs ∧ ∀ v, p.2.data ≠ .cell v) : Inv X pins' σ H s :=
  ⟨I.ok, I.os, I.bare, I.base, I.loc, I.cell, I.free, I.freeC, fun p hp => (List.mem_append.mp hp).elim (fun z => I.pin p (List.mem_append_left _ z)) (h p), I.hok, I.len⟩
theorem nodup_ix {N : List Str} (hN : N.Nodup) {i j : Nat} {x : Str} (a : N[i]? = some x) (b : N[j]? = some x) : i = j := by
  obtain ⟨h1, e1⟩ := List.getElem?_eq_some_iff.mp a
  obtain ⟨h2, e2⟩ := List.getElem?_eq_some_iff.mp b
  exact (List.getElem_inj hN).mp (e1.trans e2.symm)
theorem store_ok2 {M : Model} {A : Around} {E : Value → Shared → Prop} {i : Nat} {x : Str} {v : V} {u : Value} {Q : Unit → Shared → Prop} (I : Inv X pins σ H s) (hN : X.N.Nodup) (hi : X.N[i]? = some x) (hx : Loc X.env.scope x) (r : RelV v u)
    (h : ∀ s', Inv X pins (σ.set i (some v)) H s' → (∃ a, Heap.SameBut a s.heap s'.heap ∧ (a = X.env.locals ∨ X.env.cells.lookup x = some a)) → Q () s') (hf : X.fn x = true ∨ X.env.scope.names.lookup x = some .local := by first | exact .inl rfl | exact .inr rfl | assumption) : wpAny M A (storeName X.env x u) Q E s := by
  obtain ⟨m, hn, hl⟩ := id I.loc
  have hcls : (X.env.scope.kind == .class || (X.env.scope.kind == .module && X.env.locals != X.env.globals)) = false := by rw [I.ok.kind]; rfl
  have hiσ : i < σ.length := by rw [I.len]; exact (List.getElem?_eq_some_iff.mp hi).1
  have cne := I.cne
  have tracked : ∀ {a : Addr} {h' : Heap}, (∃ o, s.heap.get? a = some o ∧ H a = none) → Heap.SameBut a s.heap h' → HOk X.prog X.w H h' := fun {a h'} ha hs b ob e => by
    obtain ⟨_, _, hfree⟩ := ha
    refine (I.hok b ob e).stay (fun c w' hc q => (hs.2 c ?_).trans q) (fun _ q => q) fun _ _ q => q
    rintro rfl
    rcases hc with rfl | hc
    · rw [hfree] at e; cases e
    · rw [hfree] at hc; cases hc
  rcases hx with hk | hk
  · refine wpAny_storeName_local hk hn (fun h' hn' hs => ?_) hcls
    obtain ⟨oL, _, _, hoL, _⟩ := id hn
    refine h _ ⟨I.ok, I.os, I.bare, ⟨fun b o e n hb hx => ?_, fun b o e n hb hx => ?_, I.base.free, fun b o e hx => ?_, I.base.tups, I.base.frzs, I.base.tbls⟩, ⟨_, hn', fun j y v' e1 e2 e3 => ?_⟩, fun y c e => ?_, I.free, I.freeC, fun p hp => ?_, tracked ⟨oL, hoL, I.free⟩ hs, by simpa using I.len⟩ ⟨_, hs, .inl rfl⟩
    · exact (hs.2 b (Nat.ne_of_lt (Nat.lt_of_lt_of_le (Heap.lt_size e) I.ok.above))).trans (I.base.keep b o e n hb hx)
    · obtain ⟨sl, e1⟩ := I.base.slot b o e n hb hx
      exact ⟨sl, (hs.2 b (Nat.ne_of_lt (Nat.lt_of_lt_of_le (Heap.lt_size e) I.ok.above))).trans e1⟩
    · obtain ⟨o', e1⟩ := I.base.there b o e hx
      exact ⟨o', (hs.2 b (Nat.ne_of_lt (Nat.lt_of_lt_of_le (Heap.lt_size e) I.ok.above))).trans e1⟩
    · by_cases hj : j = i
      · subst hj
        rw [hi] at e1; cases e1
        rw [List.getElem?_set_self hiσ] at e2
        cases e2
        exact ⟨u, r, .inl ⟨hk, by simp⟩⟩
      · rw [List.getElem?_set_ne (Ne.symm hj)] at e2
        obtain ⟨u', r', q⟩ := hl j y v' e1 e2 e3
        refine ⟨u', r', ?_⟩
        rcases q with ⟨k, e⟩ | ⟨k, c, e, z⟩
        · refine .inl ⟨k, ?_⟩
          have : y ≠ x := fun e => hj (nodup_ix hN e1 (e ▸ hi))
          simp [this, e]
        · exact .inr ⟨k, c, e, z.sameBut hs (cne y c e)⟩
    · obtain ⟨w', z⟩ := I.cell y c e
      exact ⟨w', z.sameBut hs (cne y c e)⟩
    · obtain ⟨e, n, ne, nf, d⟩ := I.pin p hp
      exact ⟨(hs.2 p.1 ne).trans e, n, ne, nf, d⟩
  · have hfn : X.fn x = true := by
      rcases hf with z | z
      · exact z
      · rw [z] at hk; cases hk
    obtain ⟨c, hc⟩ := I.ok.has x (.inl hk)
    obtain ⟨w', z⟩ := I.cell x c hc
    refine wpAny_storeName_cell I.ok.kind hk hc z (fun h' hc' hs => ?_)
    obtain ⟨oc, hoc, hocd⟩ := id z
    refine h { s with heap := h' } ⟨I.ok, I.os, I.bare, ⟨fun b o e n hb hx => ?_, fun b o e n hb hx => ?_, I.base.free, fun b o e hx => ?_, I.base.tups, I.base.frzs, I.base.tbls⟩, ⟨m, hn.sameBut hs (Ne.symm (cne x c hc)), fun j y v' e1 e2 e3 => ?_⟩, fun y c' e => ?_, I.free, I.freeC, fun p hp => ?_, tracked ⟨oc, hoc, I.freeC x c hc⟩ hs, by simpa using I.len⟩ ⟨c, hs, .inr hc⟩
    · exact (hs.2 b (Nat.ne_of_lt (Nat.lt_of_lt_of_le (Heap.lt_size e) (I.ok.cab x c hfn hc)))).trans (I.base.keep b o e n hb hx)
    · obtain ⟨sl, e1⟩ := I.base.slot b o e n hb hx
      exact ⟨sl, (hs.2 b (Nat.ne_of_lt (Nat.lt_of_lt_of_le (Heap.lt_size e) (I.ok.cab x c hfn hc)))).trans e1⟩
    · obtain ⟨o', e1⟩ := I.base.there b o e hx
      exact ⟨o', (hs.2 b (Nat.ne_of_lt (Nat.lt_of_lt_of_le (Heap.lt_size e) (I.ok.cab x c hfn hc)))).trans e1⟩
    · by_cases hj : j = i
      · subst hj
        rw [hi] at e1; cases e1
        rw [List.getElem?_set_self hiσ] at e2
        cases e2
        exact ⟨u, r, .inr ⟨.inl hk, c, hc, hc'⟩⟩
      · rw [List.getElem?_set_ne (Ne.symm hj)] at e2
        obtain ⟨u', r', q⟩ := hl j y v' e1 e2 e3
        refine ⟨u', r', ?_⟩
        rcases q with q | ⟨k, c', e, z'⟩
        · exact .inl q
        · refine .inr ⟨k, c', e, z'.sameBut hs ?_⟩
          rintro rfl
          exact hj (nodup_ix hN e1 (I.ok.inj _ _ _ e hc ▸ hi))
    · by_cases hcc : c' = c
      · subst hcc; exact ⟨_, hc'⟩
      · obtain ⟨w2, z2⟩ := I.cell y c' e
        exact ⟨w2, z2.sameBut hs hcc⟩
    · obtain ⟨e, n, ne, nf, d⟩ := I.pin p hp
      refine ⟨(hs.2 p.1 ?_).trans e, n, ne, nf, d⟩
      intro q
      rw [q, hoc] at e
      have q' : oc = p.2 := Option.some.inj e
      exact d w' (by rw [← q']; exact hocd)
theorem store_ok {M : Model} {A : Around} {E : Value → Shared → Prop} {i : Nat} {x : Str} {v : V} {u : Value} {Q : Unit → Shared → Prop} (I : Inv X pins σ H s) (hN : X.N.Nodup) (hi : X.N[i]? = some x) (hx : Loc X.env.scope x) (r : RelV v u)
    (h : ∀ s', Inv X pins (σ.set i (some v)) H s' → Q () s') (hf : X.fn x = true ∨ X.env.scope.names.lookup x = some .local := by first | exact .inl rfl | exact .inr rfl | assumption) : wpAny M A (storeName X.env x u) Q E s :=
  store_ok2 I hN hi hx r (fun s' I' _ => h s' I') hf
theorem Inv.call' {s' : Shared} {ch : List Addr} (I : Inv X pins σ H s) (ho : s'.os = s.os) (u : Un (frs X.stack) ch H H' s.heap s'.heap) (hok : HOk X.prog X.w H' s'.heap) (hg : AllBare s'.gens)
    (hch : ∀ b ∈ ch, (b ∈ X.ex ∨ X.s₀.heap.objs.size ≤ b) ∧ b ≠ X.env.locals ∧ (∀ x c, X.env.cells.lookup x = some c → c ≠ b) ∧ ∀ p ∈ X.pn ++ pins, p.1 ≠ b) : Inv X pins σ H' s' := by
  obtain ⟨h', g', d', t', o'⟩ := s'
  have e : o' = s.os := ho
  subst e
  exact I.call (g' := g') (t' := t') (d' := d') u hok hg hch
end
abbrev XK := Value → Option Addr → Hp → Prop
abbrev St := List (Option V)
abbrev VK := V → Hp → Prop
abbrev TE := St → Hp → VK → Prop
abbrev TT := St → Hp → (Bool → Hp → Prop) → Prop
abbrev TA := St → Hp → (List V → Hp → Prop) → Prop
structure Ends where
  nx : St → Hp → Prop
  rt : VK
  bk : St → Hp → Prop := fun _ _ => False
  ct : St → Hp → Prop := fun _ _ => False
abbrev TS := Ends → St → Hp → Prop
def EP (X : Cx) (pins : List (Addr × Obj)) (σ : St) (Q : VK) (u : Value) (s' : Shared) : Prop := ∃ v H', Inv X pins σ H' s' ∧ RelV v u ∧ Q v H'
def TP (X : Cx) (pins : List (Addr × Obj)) (σ : St) (Q : Bool → Hp → Prop) (b : Bool) (s' : Shared) : Prop := ∃ H', Inv X pins σ H' s' ∧ Q b H'
def AP (X : Cx) (pins : List (Addr × Obj)) (σ : St) (Q : List V → Hp → Prop) (us : List Value) (s' : Shared) : Prop := ∃ vs H', Inv X pins σ H' s' ∧ Vals vs us ∧ Q vs H'
def SP (X : Cx) (pins : List (Addr × Obj)) (D : Ends) (f : Flow) (s' : Shared) : Prop :=
  match f with
  | .next => ∃ σ' H', Inv X pins σ' H' s' ∧ D.nx σ' H'
  | .brk => ∃ σ' H', Inv X pins σ' H' s' ∧ D.bk σ' H'
  | .cont => ∃ σ' H', Inv X pins σ' H' s' ∧ D.ct σ' H'
  | .ret u => ∃ v σ' H', Inv X pins σ' H' s' ∧ RelV v u ∧ D.rt v H'
def PE (X : Cx) (e : Expr) (t : TE) : Prop :=
  ∀ (pins : List (Addr × Obj)) (s : Shared) (σ : St) (H : Hp) (Q : VK), Inv X pins σ H s → t σ H Q → wpAny (model X.prog X.w) X.A (eval e X.env) (EP X pins σ Q) X.xe s
def PT (X : Cx) (e : Expr) (t : TT) : Prop :=
  ∀ (pins : List (Addr × Obj)) (s : Shared) (σ : St) (H : Hp) (Q : Bool → Hp → Prop), Inv X pins σ H s → t σ H Q → wpAny (model X.prog X.w) X.A (isTrue e X.env (eval e X.env)) (TP X pins σ Q) X.xe s
def PW (X : Cx) (e : Expr) (t : TT) : Prop :=
  ∀ (whole : Sem Value) (pins : List (Addr × Obj)) (s : Shared) (σ : St) (H : Hp) (Q : Bool → Hp → Prop), Inv X pins σ H s → t σ H Q → wpAny (model X.prog X.w) X.A (isTrue e X.env whole) (TP X pins σ Q) X.xe s
theorem PW.pt {X : Cx} {e : Expr} {t : TT} (h : PW X e t) : PT X e t := h _
def PA (X : Cx) (es : List Expr) (t : TA) : Prop :=
  ∀ (pos : Pos) (pins : List (Addr × Obj)) (s : Shared) (σ : St) (H : Hp) (Q : List V → Hp → Prop), Inv X pins σ H s → t σ H Q → wpAny (model X.prog X.w) X.A (spliced (backTo pos (starEach es X.env))) (AP X pins σ Q) X.xe s
def PS (X : Cx) (st : Stmt) (t : TS) : Prop :=
  ∀ (pins : List (Addr × Obj)) (s : Shared) (σ : St) (H : Hp) (D : Ends), Inv X pins σ H s → t D σ H → wpAny (model X.prog X.w) X.A (exec st X.env) (SP X pins D) X.xe s
def PSs (X : Cx) (st : List Stmt) (t : TS) : Prop :=
  ∀ (pins : List (Addr × Obj)) (s : Shared) (σ : St) (H : Hp) (D : Ends), Inv X pins σ H s → t D σ H → wpAny (model X.prog X.w) X.A (execs st X.env) (SP X pins D) X.xe s
theorem thn {α : Type} {t : Sem α} {Q Q' : α → Shared → Prop} {M : Model} {A : Around} {E : Value → Shared → Prop} {s : Shared} (h : wpAny M A t Q E s) (hQ : ∀ a s, Q a s → Q' a s) : wpAny M A t Q' E s := wpAny_mono h hQ fun _ _ x => x
end L2
namespace L2
open PySem PySem.Spec PyProof.Rows
section
variable {X : Cx}
def tVar (i : Nat) : TE := fun σ H Q => ∃ v, σ[i]? = some (some v) ∧ Q v H
def tC (v : V) : TE := fun _ H Q => Q v H
theorem pe_var {i : Nat} {x : Str} {pos : Pos} (hN : X.N[i]? = some x) (hv : Vis X.env.scope x) (hd : (x == ("__debug__" : Str)) = false := by decide) (hcd : (x == ("__classdict__" : Str)) = false := by decide) : PE X (.Name x pos) (tVar i) := by
  intro pins s σ H Q I h
  obtain ⟨v, e, h⟩ := h
  obtain ⟨m, hn, hl⟩ := I.loc
  obtain ⟨u, r, l⟩ := hl i x v hN e hv
  have fin : EP X pins σ Q u s := ⟨v, H, I, r, h⟩
  rcases l with ⟨hk, hm⟩ | ⟨hk, c, hc, hcell⟩
  · exact wpAny_Name (wpAny_loadName_local I.ok.kind hk hn hm fin) hd
  · rcases hk with hk | hk
    · exact wpAny_Name (wpAny_loadName_cell I.ok.kind hk hc hcell fin) hd
    · exact wpAny_Name (wpAny_loadName_free I.ok.kind hk hc hcell fin hcd) hd
theorem pe_int {i j pos} : PE X (.Constant (.int i) j pos) (tC (.int i)) := fun _ _ _ H _ I h => wpAny_Constant_int ⟨.int i, H, I.tok _, ⟨_, rfl⟩, h⟩
theorem pe_bl {b j pos} : PE X (.Constant (.bool b) j pos) (tC (.bl b)) := fun _ _ _ H _ I h => Constant_bool ⟨.bl b, H, I, rfl, h⟩
theorem pe_non {j pos} : PE X (.Constant .none j pos) (tC .non) := fun _ _ _ H _ I h => Constant_none ⟨.non, H, I, rfl, h⟩
theorem pe_str {x j pos} : PE X (.Constant (.str x) j pos) (tC (.str x)) := fun _ _ _ H _ I h => Calls.Constant_str ⟨.str x, H, I.tok _, ⟨_, rfl⟩, h⟩
def Gl (X : Cx) (x : Str) : Prop := X.env.kindOf x = some .globalImplicit
theorem ld_glob {E : Value → Shared → Prop} {pins : List (Addr × Obj)} {s : Shared} {σ : St} {H : Hp} {x : Str} {u : Value} {pos : Pos} {Q : Value → Shared → Prop} (I : Inv X pins σ H s) (hg : Gl X x) (hm : X.mg x = some u) (h : Q u s)
    (hd : (x == ("__debug__" : Str)) = false := by decide) : wpAny (model X.prog X.w) X.A (eval (.Name x pos) X.env) Q E s :=
  Calls.Name_function_global I.ok.kind hg (Calls.loadGlobal_global (by rw [I.ok.glob]; exact I.mod.glob.keeps I.bk) hm h) hd
theorem ld_blt {E : Value → Shared → Prop} {pins : List (Addr × Obj)} {s : Shared} {σ : St} {H : Hp} {x : Str} {u : Value} {pos : Pos} {Q : Value → Shared → Prop} (I : Inv X pins σ H s) (hg : Gl X x) (hm : X.mg x = none) (hv : bootBuiltins x = some u) (h : Q u s)
    (hn : x ≠ "__name__" := by decide) (hd : (x == ("__debug__" : Str)) = false := by decide) : wpAny (model X.prog X.w) X.A (eval (.Name x pos) X.env) Q E s := by
  obtain ⟨mb, h1, h2⟩ := I.mod.blt
  exact Calls.Name_function_global I.ok.kind hg (Calls.loadGlobal_builtin (by rw [I.ok.glob]; exact I.mod.glob.keeps I.bk) hm (by rw [I.ok.blt]; exact h1.keeps I.bk) ((h2 x hn).trans hv) h) hd
theorem pe_glob {x : Str} {v : V} {u : Value} {pos : Pos} (hg : Gl X x) (hm : X.mg x = some u) (r : RelV v u) (hd : (x == ("__debug__" : Str)) = false := by decide) : PE X (.Name x pos) (tC v) :=
  fun _ _ _ H _ I h => ld_glob I hg hm ⟨v, H, I, r, h⟩ hd
theorem pe_bltn {x : Str} {v : V} {u : Value} {pos : Pos} (hg : Gl X x) (hm : X.mg x = none) (hv : bootBuiltins x = some u) (r : RelV v u) (hn : x ≠ "__name__" := by decide) (hd : (x == ("__debug__" : Str)) = false := by decide) : PE X (.Name x pos) (tC v) :=
  fun _ _ _ H _ I h => ld_blt I hg hm hv ⟨v, H, I, r, h⟩ hn hd
variable {a b : Expr} {ta tb : TE} {pos : Pos}
def tB (t : TE) : TT := fun σ H Q => t σ H fun x H1 => ∃ c, x = .bl c ∧ Q c H1
theorem pt_val {e : Expr} {t : TE} (h : PE X e t) (he : ∀ whole, isTrue e X.env whole = (do let v ← whole; standAt e.pos; holding [v] (truthy v)) := by intro _; rfl) : PT X e (tB t) := by
  intro pins s σ H Q I hw
  refine isTrue_plain (thn (h pins s σ H _ I hw) fun v s1 ⟨x, H1, I1, r1, q1⟩ => ?_) (he _)
  obtain ⟨d, rfl, q⟩ := q1
  cases r1
  exact wpAny_truthy_bool ⟨H1, I1, q⟩
variable {tA tB' : TT} {rest : List Expr}
def tAnd (t u : TT) : TT := fun σ H Q => t σ H fun c H1 => if c = true then u σ H1 Q else Q false H1
def tOr (t u : TT) : TT := fun σ H Q => t σ H fun c H1 => if c = true then Q true H1 else u σ H1 Q
def tNot (t : TT) : TT := fun σ H Q => t σ H fun c H1 => Q (!c) H1
theorem pw_and1 (ha : PT X a tA) : PW X (.BoolOp .And [a] pos) tA := by
  intro wh pins s σ H Q I h
  refine isTrue_and (thn (ha pins s σ H Q I h) fun c s1 e => ?_)
  cases c with
  | true => exact isTrue_and_nil e
  | false => exact e
theorem pw_or1 (ha : PT X a tA) : PW X (.BoolOp .Or [a] pos) tA := by
  intro wh pins s σ H Q I h
  refine isTrue_or (thn (ha pins s σ H Q I h) fun c s1 e => ?_)
  cases c with
  | false => exact isTrue_or_nil e
  | true => exact e
theorem pw_and (ha : PT X a tA) (hb : PW X (.BoolOp .And (b :: rest) pos) tB') : PW X (.BoolOp .And (a :: b :: rest) pos) (tAnd tA tB') := by
  intro wh pins s σ H Q I h
  refine isTrue_and (thn (ha pins s σ H _ I h) fun c s1 ⟨H1, I1, q1⟩ => ?_)
  cases c with
  | true => exact hb wh pins s1 σ H1 Q I1 q1
  | false => exact ⟨H1, I1, q1⟩
theorem pw_or (ha : PT X a tA) (hb : PW X (.BoolOp .Or (b :: rest) pos) tB') : PW X (.BoolOp .Or (a :: b :: rest) pos) (tOr tA tB') := by
  intro wh pins s σ H Q I h
  refine isTrue_or (thn (ha pins s σ H _ I h) fun c s1 ⟨H1, I1, q1⟩ => ?_)
  cases c with
  | true => exact ⟨H1, I1, q1⟩
  | false => exact hb wh pins s1 σ H1 Q I1 q1
theorem pt_not (ha : PT X a tA) : PT X (.UnaryOp .Not a pos) (tNot tA) := by
  intro pins s σ H Q I h
  exact isTrue_not (ha pins s σ H (fun c H1 => Q (!c) H1) I h)
def tAndV (ta tb : TE) : TE := fun σ H Q => ta σ H fun x H1 => ∃ c, x = .bl c ∧ if c = true then tb σ H1 Q else Q (.bl false) H1
def tNotV (ta : TE) : TE := fun σ H Q => ta σ H fun x H1 => ∃ c, x = .bl c ∧ Q (.bl (!c)) H1
theorem pe_one {op} {t : TE} (h : PE X a t) : PE X (.BoolOp op [a] pos) t := fun pins s σ H Q I hw => BoolOp_one (h pins s σ H Q I hw)
theorem pe_and (ha : PE X a ta) (hb : PE X (.BoolOp .And (b :: rest) pos) tb) : PE X (.BoolOp .And (a :: b :: rest) pos) (tAndV ta tb) := by
  intro pins s σ H Q I h
  refine BoolOp_and (thn (ha pins s σ H _ I h) fun v s1 ⟨x, H1, I1, r1, q1⟩ => ?_)
  obtain ⟨c, rfl, q1⟩ := q1
  cases r1
  refine wpAny_truthy_bool ?_
  cases c with
  | true => exact hb pins s1 σ H1 Q I1 q1
  | false => exact ⟨.bl false, H1, I1, rfl, q1⟩
theorem pe_not (ha : PE X a ta) : PE X (.UnaryOp .Not a pos) (tNotV ta) := by
  intro pins s σ H Q I h
  refine UnaryOp_ (thn (ha pins s σ H _ I h) fun v s1 ⟨x, H1, I1, r1, q1⟩ => ?_)
  obtain ⟨c, rfl, q1⟩ := q1
  cases r1
  exact not_of (wpAny_truthy_bool ⟨.bl (!c), H1, I1, rfl, q1⟩)
def tIf (t : TT) (ta tb : TE) : TE := fun σ H Q => t σ H fun c H1 => if c = true then ta σ H1 Q else tb σ H1 Q
theorem pe_ifExp {c : Expr} (hc : PT X c tA) (ha : PE X a ta) (hb : PE X b tb) : PE X (.IfExp c a b pos) (tIf tA ta tb) := by
  intro pins s σ H Q I h
  refine wpAny_IfExp (thn (hc pins s σ H _ I h) fun d s1 ⟨H1, I1, q1⟩ => ?_)
  cases d with
  | true => exact ha pins s1 σ H1 Q I1 q1
  | false => exact hb pins s1 σ H1 Q I1 q1
end
end L2
namespace L2
open PySem PySem.Spec PyProof.Rows
def SqL (K : PySem.W.Frag) (H : Hp) (a : Addr) (xs : List V) : Prop :=
  Rd H a (.lst xs) ∨
    ∃ (o : Obj) (its : Array Value) (n : Nat), K.lookup a = some o ∧ o.cls = .type "list" ∧ o.dict = none ∧ o.data = .seq its n ∧ its.size ≤ sizeLine ∧ Vals xs its.toList
def SqT (K : PySem.W.Frag) (H : Hp) (a : Addr) (xs : List V) : Prop :=
  Rd H a (.tup xs) ∨
    ∃ (o : Obj) (its : Array Value) (n : Nat), K.lookup a = some o ∧ o.cls = .type "tuple" ∧ o.data = .seq its n ∧ its.size ≤ sizeLine ∧ Vals xs its.toList
def absV : Value → Option V
  | .none => some .non
  | .bool b => some (.bl b)
  | .int i _ => some (.int i)
  | .str x _ => some (.str x)
  | .bytes b _ => some (.byt b)
  | .float b _ => some (.flt b)
  | .ref a => some (.ref a)
  | .type n => some (.ty n)
  | _ => none
theorem RelV.abs {x : V} {u : Value} (r : RelV x u) : absV u = some x := by
  cases x with
  | non => cases r; rfl
  | bl _ => cases r; rfl
  | int _ => obtain ⟨t, rfl⟩ := r; rfl
  | str _ => obtain ⟨t, rfl⟩ := r; rfl
  | byt _ => obtain ⟨t, rfl⟩ := r; rfl
  | flt _ => obtain ⟨t, rfl⟩ := r; rfl
  | ref _ => cases r; rfl
  | ty _ => cases r; rfl
theorem RelV.inj {x y : V} {u : Value} (r : RelV x u) (q : RelV y u) : x = y := Option.some.inj (r.abs.symm.trans q.abs)
theorem Vals.inj : ∀ {xs ys : List V} {us : List Value}, Vals xs us → Vals ys us → xs = ys
  | _, _, _, .nil, .nil => rfl
  | _, _, _, .cons r t, .cons r' t' => by rw [r.inj r', Vals.inj t t']
section
variable {X : Cx} {pins : List (Addr × Obj)} {σ : St} {H : Hp} {s : Shared} {a : Addr} {xs ys : List V}
theorem SqL.of {K : PySem.W.Frag} (h : H a = some (.lst xs)) : SqL K H a xs := .inl (.inl h)
theorem SqT.of {K : PySem.W.Frag} (h : H a = some (.tup xs)) : SqT K H a xs := .inl (.inl h)
theorem Inv.list (I : Inv X pins σ H s) (h : SqL X.K H a xs) : ∃ its : List Value, Vals xs its ∧ PlainL s.heap a its.toArray ∧ xs.length ≤ sizeLine := by
  rcases h with h | ⟨o, its, n, hk, hc, hd, hs, hz, r⟩
  · obtain ⟨z, its, n, r, e⟩ := h.ok I.hok
    exact ⟨its, r, ⟨_, n, e, rfl, rfl, rfl⟩, z⟩
  · refine ⟨its.toList, r, ⟨o, n, I.kIn a o hk, hc, hd, by simpa using hs⟩, ?_⟩
    have e := r.length
    simp only [Array.length_toList] at e
    omega
theorem Inv.tuple (I : Inv X pins σ H s) (h : SqT X.K H a xs) : ∃ its : List Value, Vals xs its ∧ IsTup s.heap a its.toArray ∧ xs.length ≤ sizeLine := by
  rcases h with h | ⟨o, its, n, hk, hc, hs, hz, r⟩
  · obtain ⟨z, its, r, p⟩ := h.ok I.hok
    exact ⟨its, r, p, z⟩
  · refine ⟨its.toList, r, ⟨o, I.kIn a o hk, hc, n, by simpa using hs⟩, ?_⟩
    have e := r.length
    simp only [Array.length_toList] at e
    omega
theorem Inv.list_inj (I : Inv X pins σ H s) (h : SqL X.K H a xs) (h' : SqL X.K H a ys) : xs = ys := by
  obtain ⟨its, r, ⟨o, n, e, _, _, d⟩, _⟩ := I.list h
  obtain ⟨its', r', ⟨o', n', e', _, _, d'⟩, _⟩ := I.list h'
  rw [e] at e'; cases e'
  rw [d] at d'
  injection d' with d1 _
  have : its = its' := by simpa using congrArg Array.toList d1
  subst this
  exact r.inj r'
theorem Inv.tuple_inj (I : Inv X pins σ H s) (h : SqT X.K H a xs) (h' : SqT X.K H a ys) : xs = ys := by
  obtain ⟨its, r, ⟨o, e, _, n, d⟩, _⟩ := I.tuple h
  obtain ⟨its', r', ⟨o', e', _, n', d'⟩, _⟩ := I.tuple h'
  rw [e] at e'; cases e'
  rw [d] at d'
  injection d' with d1 _
  have : its = its' := by simpa using congrArg Array.toList d1
  subst this
  exact r.inj r'
end
abbrev Cx.wish (X : Cx) (E : Value → Shared → Prop) : Cx := { X with xe := E }
abbrev Cx.nox (X : Cx) : Cx := X.wish fun _ _ => False
theorem Cx.Ok.wish {X : Cx} (ok : X.Ok) (E : Value → Shared → Prop) : (X.wish E).Ok :=
  ⟨ok.mod, ok.kind, ok.glob, ok.blt, ok.above, ok.inj, ok.has, ok.cab, ok.hd, ok.frames, ok.stk, ok.exf, ok.bs, ok.bsz, ok.noex, ok.exfs, ok.funs, ok.frf⟩
theorem Cx.Ok.unwish {X : Cx} {E : Value → Shared → Prop} (ok : (X.wish E).Ok) : X.Ok :=
  ⟨ok.mod, ok.kind, ok.glob, ok.blt, ok.above, ok.inj, ok.has, ok.cab, ok.hd, ok.frames, ok.stk, ok.exf, ok.bs, ok.bsz, ok.noex, ok.exfs, ok.funs, ok.frf⟩
section
variable {X : Cx} {pins : List (Addr × Obj)} {σ : St} {H : Hp} {s : Shared} {E : Value → Shared → Prop}
theorem Inv.wish (I : Inv X pins σ H s) (E : Value → Shared → Prop) : Inv (X.wish E) pins σ H s := ⟨I.ok.wish E, I.os, I.bare, I.base, I.loc, I.cell, I.free, I.freeC, I.pin, I.hok, I.len⟩
theorem Inv.unwish (I : Inv (X.wish E) pins σ H s) : Inv X pins σ H s := ⟨I.ok.unwish, I.os, I.bare, I.base, I.loc, I.cell, I.free, I.freeC, I.pin, I.hok, I.len⟩
theorem SP.unwish {D : Ends} {f : Flow} {s' : Shared} (h : SP (X.wish E) pins D f s') : SP X pins D f s' := by
  cases f with
  | next => obtain ⟨σ', H', I, q⟩ := h; exact ⟨σ', H', I.unwish, q⟩
  | brk => obtain ⟨σ', H', I, q⟩ := h; exact ⟨σ', H', I.unwish, q⟩
  | cont => obtain ⟨σ', H', I, q⟩ := h; exact ⟨σ', H', I.unwish, q⟩
  | ret u => obtain ⟨v, σ', H', I, r, q⟩ := h; exact ⟨v, σ', H', I.unwish, r, q⟩
theorem PE.nox {e : Expr} {t : TE} (h : PE X.nox e t) : PE X e t := fun pins s σ H Q I hw =>
  wpAny_mono (h pins s σ H Q (I.wish _) hw) (fun _ _ ⟨v, H', I', r, q⟩ => ⟨v, H', I'.unwish, r, q⟩) fun _ _ z => False.elim z
theorem PT.nox {e : Expr} {t : TT} (h : PT X.nox e t) : PT X e t := fun pins s σ H Q I hw =>
  wpAny_mono (h pins s σ H Q (I.wish _) hw) (fun _ _ ⟨H', I', q⟩ => ⟨H', I'.unwish, q⟩) fun _ _ z => False.elim z
theorem PSs.nox {st : List Stmt} {t : TS} (h : PSs X.nox st t) : PSs X st t := fun pins s σ H D I hw =>
  wpAny_mono (h pins s σ H D (I.wish _) hw) (fun _ _ q => q.unwish) fun _ _ z => False.elim z
end
section
variable {X : Cx} {st : Stmt} {rest : List Stmt} {t u : TS} {e : Expr} {te : TE} {pos : Pos}
def tNext : TS := fun D σ H => D.nx σ H
def tSeq (t u : TS) : TS := fun D σ H => t { D with nx := u D } σ H
theorem pss_nil : PSs X [] tNext := fun _ _ σ H _ I h => wpAny_execs_nil ⟨σ, H, I, h⟩
theorem pss_cons (h1 : PS X st t) (h2 : PSs X rest u) : PSs X (st :: rest) (tSeq t u) := by
  intro pins s σ H D I h
  refine wpAny_execs_cons (thn (h1 pins s σ H { D with nx := u D } I h) fun f s1 q => ?_)
  cases f with
  | next =>
    obtain ⟨σ', H', I', q⟩ := q
    exact h2 pins s1 σ' H' D I' q
  | ret v => exact q
  | brk => exact q
  | cont => exact q
theorem pss_one (h1 : PS X st t) : PSs X [st] t := by
  intro pins s σ H D I h
  refine wpAny_execs_cons (thn (h1 pins s σ H D I h) fun f s1 q => ?_)
  cases f with
  | next => exact wpAny_execs_nil q
  | ret v => exact q
  | brk => exact q
  | cont => exact q
theorem Inv.quiet {pins : List (Addr × Obj)} {σ : St} {H : Hp} {s : Shared} (I : Inv X pins σ H s) : interactive X.env = false := by simp [interactive, I.ok.kind]
def tDrop (te : TE) : TS := fun D σ H => te σ H fun _ H1 => D.nx σ H1
theorem ps_expr (he : PE X e te) (hs : swapsWith e none pos.line X.env = pure false := by rfl) : PS X (.Expr e pos) (tDrop te) := by
  intro pins s σ H D I h
  exact wpAny_Expr_any (thn (he pins s σ H _ I h) fun v s1 ⟨x, H1, I1, r1, q1⟩ => ⟨σ, H1, I1, q1⟩) I.quiet hs
def tRet (te : TE) : TS := fun D σ H => te σ H D.rt
theorem ps_ret (he : PE X e te) : PS X (.Return (some e) pos) (tRet te) := by
  intro pins s σ H D I h
  exact wpAny_Return_some (thn (he pins s σ H _ I h) fun v s1 ⟨x, H1, I1, r1, q1⟩ => ⟨x, σ, H1, I1, r1, q1⟩)
def tIfS (c : TT) (t u : TS) : TS := fun D σ H => c σ H fun b H1 => if b = true then t D σ H1 else u D σ H1
theorem ps_if {c : Expr} {a b : List Stmt} {tc : TT} (hc : PT X c tc) (ha : PSs X a t) (hb : PSs X b u) : PS X (.If c a b pos) (tIfS tc t u) := by
  intro pins s σ H D I h
  refine wpAny_If (thn (hc pins s σ H _ I h) fun d s1 ⟨H1, I1, q1⟩ => ?_)
  cases d with
  | true => exact ha pins s1 σ H1 D I1 q1
  | false => exact hb pins s1 σ H1 D I1 q1
end
abbrev TG := V → St → Hp → (St → Hp → Prop) → Prop
abbrev TGs := List V → St → Hp → (St → Hp → Prop) → Prop
def PG (X : Cx) (target : Expr) (t : TG) : Prop :=
  ∀ (pins : List (Addr × Obj)) (s : Shared) (σ : St) (H : Hp) (v : V) (u : Value) (Q : St → Hp → Prop), Inv X pins σ H s → RelV v u → t v σ H Q →
    wpAny (model X.prog X.w) X.A (assign target X.env u) (fun _ s' => ∃ σ' H', Inv X pins σ' H' s' ∧ Q σ' H') X.xe s
def PGs (X : Cx) (ts : List Expr) (t : TGs) : Prop :=
  ∀ (pins : List (Addr × Obj)) (s : Shared) (σ : St) (H : Hp) (vs : List V) (us : List Value) (Q : St → Hp → Prop), Inv X pins σ H s → Vals vs us → t vs σ H Q →
    wpAny (model X.prog X.w) X.A (assignInOrder ((assignEach ts X.env).map (·.2)) us) (fun _ s' => ∃ σ' H', Inv X pins σ' H' s' ∧ Q σ' H') X.xe s
section
variable {X : Cx} {pos : Pos}
def gName (i : Nat) : TG := fun v σ H Q => Q (σ.set i (some v)) H
theorem pg_name {i : Nat} {x : Str} (hN : X.N.Nodup) (hi : X.N[i]? = some x) (hx : Loc X.env.scope x) (hf : X.fn x = true ∨ X.env.scope.names.lookup x = some .local := by first | exact .inl rfl | exact .inr rfl | assumption) : PG X (.Name x pos) (gName i) := by
  intro pins s σ H v u Q I r h
  exact wpAny_assign_Name (store_ok I hN hi hx r (fun s' I' => ⟨_, H, I', h⟩) hf)
def gNil : TGs := fun vs σ H Q => vs = [] ∧ Q σ H
def gCons (t : TG) (u : TGs) : TGs := fun vs σ H Q => ∃ v r, vs = v :: r ∧ t v σ H fun σ' H' => u r σ' H' Q
theorem pgs_nil : PGs X [] gNil := by
  intro pins s σ H vs us Q I r h
  obtain ⟨e, h⟩ := h
  subst e
  cases r
  exact assignInOrder_nil ⟨σ, H, I, h⟩
theorem pgs_cons {e : Expr} {es : List Expr} {t : TG} {u : TGs} (h1 : PG X e t) (h2 : PGs X es u)
    (hs : (assignEach (e :: es) X.env).map (·.2) = assign e X.env :: (assignEach es X.env).map (·.2) := by rfl) : PGs X (e :: es) (gCons t u) := by
  intro pins s σ H vs us Q I r h
  obtain ⟨v, vr, e1, h⟩ := h
  subst e1
  cases r with
  | cons r rr =>
    rw [hs]
    refine assignInOrder_cons (thn (h1 pins s σ H _ _ _ I r h) fun _ s1 ⟨σ1, H1, I1, q1⟩ => ?_)
    exact h2 pins s1 σ1 H1 _ _ Q I1 rr q1
def gTup (K : PySem.W.Frag) (n : Nat) (t : TGs) : TG := fun v σ H Q => ∃ a xs, v = .ref a ∧ SqT K H a xs ∧ xs.length = n ∧ t xs σ H Q
theorem pg_tup {es : List Expr} {k : Nat} {t : TGs} {n : Nat} (hc : X.calm = true) (h : PGs X es t)
    (hn : (assignEach es X.env).length = n := by rfl) (hst : (assignEach es X.env).findIdx? (·.1) = none := by rfl) : PG X (.Tuple es k pos) (gTup X.K n t) := by
  intro pins s σ H v u Q I r hw
  obtain ⟨a, xs, e1, hq, hl, hw⟩ := hw
  subst e1
  cases r
  obtain ⟨its, rv, ht, hz⟩ := I.tuple hq
  refine assign_Tuple_tuple (I.ok.hd hc) ht (by simp [hn, ← hl, rv.length]) hst fun h' hx => ?_
  have I1 : Inv X pins σ H { s with heap := h' } := I.kept (t' := s.toks) fun b o e => hx b o (Nat.ne_of_lt (Heap.lt_size e)) e
  exact h pins _ σ H xs _ Q I1 (by simpa using rv) hw
def tAsg (te : TE) (g : TG) : TS := fun D σ H => te σ H fun x H1 => g x σ H1 D.nx
theorem ps_set {i : Nat} {x : Str} {e : Expr} {te : TE} {pos' : Pos} (hN : X.N.Nodup) (hi : X.N[i]? = some x) (hx : Loc X.env.scope x) (he : PE X e te) (hs : swapsWith e (some (.Name x pos')) pos.line X.env = pure false := by rfl) (hf : X.fn x = true ∨ X.env.scope.names.lookup x = some .local := by first | exact .inl rfl | exact .inr rfl | assumption) :
    PS X (.Assign [.Name x pos'] e pos) (tAsg te (gName i)) := by
  intro pins s σ H D I h
  refine wpAny_Assign_Name (thn (he pins s σ H _ I h) fun v s1 ⟨y, H1, I1, r1, q1⟩ => ?_) hs
  exact store_ok I1 hN hi hx r1 (fun s2 I2 => ⟨_, H1, I2, q1⟩) hf
end
section
variable {X : Cx} {pos : Pos}
end
structure It where
  go : Nat → Hp → Prop
  yld : Nat → Hp → V → Hp → Prop
  stop : Nat → Hp → Prop
def FpOk (X : Cx) (pins : List (Addr × Obj)) (H : Hp) (b : Addr) : Prop :=
  H b = none ∧ b ≠ X.env.locals ∧ b ∉ X.fs ∧ (b ∈ X.ex ∨ X.s₀.heap.objs.size ≤ b) ∧ (∀ x c, X.env.cells.lookup x = some c → c ≠ b) ∧ ∀ p ∈ X.pn ++ pins, p.1 ≠ b
theorem Inv.fpOk {X : Cx} {pins : List (Addr × Obj)} {σ : St} {H H' : Hp} {s : Shared} {b : Addr} (I : Inv X pins σ H s) (hb : s.heap.objs.size ≤ b) (hn : H' b = none) : FpOk X pins H' b := by
  refine ⟨hn, Nat.ne_of_gt (Nat.lt_of_lt_of_le I.lt hb), I.nofs hb, .inr (Nat.le_trans I.sz hb), fun x c e z => ?_, fun p hp z => ?_⟩
  · obtain ⟨v, q⟩ := I.cell x c e
    exact absurd (Nat.lt_of_lt_of_le q.lt (by rw [z]; exact hb)) (Nat.lt_irrefl _)
  · exact absurd (Nat.lt_of_lt_of_le (Heap.lt_size (I.pin p hp).1) (by rw [z]; exact hb)) (Nat.lt_irrefl _)
structure Turn (P : Program) (w : World) (K : PySem.W.Frag) (tg : Expr) (J : It) (fp : List Addr) (it : Addr) (tn : Nat → Heap → Prop) : Prop where
  mem : it ∈ fp
  obj : ∀ i h, tn i h → ∀ b ∈ fp, ∃ o, h.get? b = some o ∧ ∀ v, o.data ≠ .cell v
  keep : ∀ i h h', tn i h → (∀ b ∈ fp, ∀ o, h.get? b = some o → h'.get? b = some o) → tn i h'
  item : ∀ (X : Cx), X.prog = P → X.w = w → X.K = K → X.calm = true → ∀ (i : Nat) (pins : List (Addr × Obj)) (s : Shared) (σ : St) (H : Hp) (E : Value → Shared → Prop), Inv X pins σ H s → (∀ b ∈ fp, FpOk X pins H b) → tn i s.heap → J.go i H →
    wpAny (model P w) X.A (pyNext (.ref it)) (fun r s1 => ∃ u, r = some u ∧
      wpAny (model P w) X.A (letOwnedTupleGo tg (.ref it) u) (fun _ s2 => ∃ x H', Inv X pins σ H' s2 ∧ RelV x u ∧ J.yld i H x H' ∧ tn (i + 1) s2.heap ∧ ∀ b ∈ fp, H' b = none) E s1) E s
  done : ∀ (X : Cx), X.prog = P → X.w = w → X.K = K → X.calm = true → ∀ (i : Nat) (pins : List (Addr × Obj)) (s : Shared) (σ : St) (H : Hp) (E : Value → Shared → Prop), Inv X pins σ H s → (∀ b ∈ fp, FpOk X pins H b) → tn i s.heap → J.stop i H →
    wpAny (model P w) X.A (pyNext (.ref it)) (fun r s1 => r = none ∧ Inv X pins σ H s1) E s
  self : ∀ (A : Around) (i : Nat) (s : Shared) (Q : Value → Shared → Prop) (E : Value → Shared → Prop), tn i s.heap → Q (.ref it) s → wpAny (model P w) A (pyIter (.ref it)) Q E s
abbrev TI := St → Hp → (It → Hp → Prop) → Prop
def PIE (X : Cx) (pins : List (Addr × Obj)) (σ : St) (tg : Expr) (R : It → Hp → Prop) (itv : Value) (s2 : Shared) : Prop :=
  ∃ (it : Addr) (fp : List Addr) (tn : Nat → Heap → Prop) (J : It) (H' : Hp), itv = .ref it ∧ Inv X pins σ H' s2 ∧ Turn X.prog X.w X.K tg J fp it tn ∧ tn 0 s2.heap ∧ (∀ b ∈ fp, FpOk X pins H' b) ∧ R J H'
def PI (X : Cx) (tg iter : Expr) (wi : TI) : Prop :=
  ∀ (pins : List (Addr × Obj)) (s : Shared) (σ : St) (H : Hp) (R : It → Hp → Prop), Inv X pins σ H s → wi σ H R →
    wpAny (model X.prog X.w) X.A (eval iter X.env) (fun v s1 => wpAny (model X.prog X.w) X.A (pyIter v) (PIE X pins σ tg R) X.xe s1) X.xe s
theorem go_of {M : Model} {A : Around} {E : Value → Shared → Prop} {s : Shared} {tg : Expr} {it : Addr} {u : Value} {o : Obj} {n : String} {vs : Array Value} {Q : Unit → Shared → Prop} (ho : s.heap.get? it = some o) (hc : o.cls = .type n) (hd : o.data = .fields vs)
    (hn : ["enumerate", "zip", "dict_itemiterator", "dict_reverseitemiterator", "odict_iterator", "itertools.zip_longest", "itertools.pairwise"].contains n = false) (hQ : Q () s) : wpAny M A (letOwnedTupleGo tg (.ref it) u) Q E s := by
  unfold letOwnedTupleGo
  cases tg <;> first
    | exact wpAny_pure hQ
    | (cases u <;> first
        | exact wpAny_pure hQ
        | (refine wpAny_bind (wpAny_load ho ?_)
           rw [hc, hd]
           show wpAny M A (if (["enumerate", "zip", "dict_itemiterator", "dict_reverseitemiterator", "odict_iterator", "itertools.zip_longest", "itertools.pairwise"].contains n && vs[0]? == some (rawInt _)) = true then _ else _) Q E s
           rw [if_neg (by intro h; rw [hn, Bool.false_and] at h; cases h)]
           exact wpAny_pure hQ))
def Itl (K : PySem.W.Frag) (a : Addr) : It :=
  ⟨fun i H => ∃ xs x, SqL K H a xs ∧ xs[i]? = some x, fun i H x H' => H' = H ∧ ∀ xs, SqL K H a xs → xs[i]? = some x, fun i H => ∃ xs, SqL K H a xs ∧ xs.length ≤ i⟩
def Itt (K : PySem.W.Frag) (a : Addr) : It :=
  ⟨fun i H => ∃ xs x, SqT K H a xs ∧ xs[i]? = some x, fun i H x H' => H' = H ∧ ∀ xs, SqT K H a xs → xs[i]? = some x, fun i H => ∃ xs, SqT K H a xs ∧ xs.length ≤ i⟩
def Itr (lo : Int) (n : Nat) : It := ⟨fun i _ => i < n, fun i H x H' => H' = H ∧ x = .int (lo + i), fun i _ => n ≤ i⟩
theorem turn_list {P : Program} {w : World} {K : PySem.W.Frag} {tg : Expr} (a it : Addr) : Turn P w K tg (Itl K a) [it] it (fun i h => h.IsListIter it a i) where
  mem := by simp
  obj := fun i h st b hb => by
    have e : b = it := by simpa using hb
    subst e
    obtain ⟨o, e, c, d⟩ := st
    exact ⟨o, e, fun v z => by rw [d] at z; cases z⟩
  keep := fun i h h' st k => st.at fun o e => k it (by simp) o e
  item := by
    intro X hP hw hK hc i pins s σ H E I hf st hg
    subst hP hw hK
    obtain ⟨xs, x, hq, hx⟩ := hg
    obtain ⟨its, rv, p, hz⟩ := I.list hq
    obtain ⟨u, hu, ru⟩ := rv.get hx
    obtain ⟨f0, f1, f2, f3, f4, f5⟩ := hf it (by simp)
    refine wpAny_pyNext_list_item st p.isList (x := u) (by simpa using hu) fun h' st' sb => ?_
    have I1 : Inv X pins σ H { s with heap := h' } := I.turned (t' := s.toks) (fun b o hb e => (sb.2 b hb).trans e) f0 f1 f3 f4 f5
    obtain ⟨o, e, c, d⟩ := id st'
    exact ⟨u, rfl, go_of (s := { s with heap := h' }) e c d (by decide) ⟨x, H, I1, ru, ⟨rfl, fun ys hy => by rw [I.list_inj hy hq]; exact hx⟩, st', fun b hb => (hf b hb).1⟩⟩
  done := by
    intro X hP hw hK hc i pins s σ H E I hf st hg
    subst hP hw hK
    obtain ⟨xs, hq, hx⟩ := hg
    obtain ⟨its, rv, p, hz⟩ := I.list hq
    obtain ⟨f0, f1, f2, f3, f4, f5⟩ := hf it (by simp)
    have hl := rv.length
    exact wpAny_pyNext_list_end (I.ok.hd hc) st p.isList (by simp; omega) fun h' eb => ⟨rfl, I.turned (t' := s.toks) (fun b o hb e => eb b o hb e) f0 f1 f3 f4 f5⟩
  self := fun _ _ _ _ _ st h => wpAny_pyIter_listiter st h
theorem turn_tuple {P : Program} {w : World} {K : PySem.W.Frag} {tg : Expr} (a it : Addr) : Turn P w K tg (Itt K a) [it] it (fun i h => h.IsTupleIter it a i) where
  mem := by simp
  obj := fun i h st b hb => by
    have e : b = it := by simpa using hb
    subst e
    obtain ⟨o, e, c, d⟩ := st
    exact ⟨o, e, fun v z => by rw [d] at z; cases z⟩
  keep := fun i h h' st k => st.at fun o e => k it (by simp) o e
  item := by
    intro X hP hw hK hc i pins s σ H E I hf st hg
    subst hP hw hK
    obtain ⟨xs, x, hq, hx⟩ := hg
    obtain ⟨its, rv, p, hz⟩ := I.tuple hq
    obtain ⟨u, hu, ru⟩ := rv.get hx
    obtain ⟨f0, f1, f2, f3, f4, f5⟩ := hf it (by simp)
    refine wpAny_pyNext_tuple_item st (show s.heap.IsTuple a its.toArray from p) (x := u) (by simpa using hu) fun h' st' sb => ?_
    have I1 : Inv X pins σ H { s with heap := h' } := I.turned (t' := s.toks) (fun b o hb e => (sb.2 b hb).trans e) f0 f1 f3 f4 f5
    obtain ⟨o, e, c, d⟩ := id st'
    exact ⟨u, rfl, go_of (s := { s with heap := h' }) e c d (by decide) ⟨x, H, I1, ru, ⟨rfl, fun ys hy => by rw [I.tuple_inj hy hq]; exact hx⟩, st', fun b hb => (hf b hb).1⟩⟩
  done := by
    intro X hP hw hK hc i pins s σ H E I hf st hg
    subst hP hw hK
    obtain ⟨xs, hq, hx⟩ := hg
    obtain ⟨its, rv, p, hz⟩ := I.tuple hq
    obtain ⟨f0, f1, f2, f3, f4, f5⟩ := hf it (by simp)
    have hl := rv.length
    exact wpAny_pyNext_tuple_end (I.ok.hd hc) st (show s.heap.IsTuple a its.toArray from p) (by simp; omega) fun h' eb => ⟨rfl, I.turned (t' := s.toks) (fun b o hb e => eb b o hb e) f0 f1 f3 f4 f5⟩
  self := fun _ _ _ _ _ st h => wpAny_pyIter_tupleiter st h
theorem turn_range {P : Program} {w : World} {K : PySem.W.Frag} {tg : Expr} (it : Addr) (lo : Int) (n : Nat) : Turn P w K tg (Itr lo n) [it] it (fun i h => IsRangeIter h it (lo + (i : Nat) * 1) ((n : Int) - (i : Nat)) 1) where
  mem := by simp
  obj := fun i h st b hb => by
    have e : b = it := by simpa using hb
    subst e
    exact ⟨_, st, fun v z => by
      have z' : Data.fields _ = Data.cell v := z
      cases z'⟩
  keep := fun i h h' st k => k it (by simp) _ st
  item := by
    intro X hP hw hK hc i pins s σ H E I hf st hg
    subst hP hw hK
    obtain ⟨f0, f1, f2, f3, f4, f5⟩ := hf it (by simp)
    have W := Walks.range (prog := X.prog) (w := X.w) (I.ok.hd hc) it lo 1 n
    refine W.item i s _ _ hg st fun v h' tk hv st' kk => ?_
    obtain ⟨t, rfl⟩ := hv
    have I1 : Inv X pins σ H { s with heap := h', toks := tk } := I.turned (fun b o hb e => kk b o (by simpa using hb) e) f0 f1 f3 f4 f5
    refine ⟨_, rfl, go_of (s := { s with heap := h', toks := tk }) (n := "range_iterator") st' rfl rfl (by decide) ⟨.int (lo + i), H, I1, ⟨t, ?_⟩, ⟨rfl, rfl⟩, st', fun b hb => (hf b hb).1⟩⟩
    rw [Int.mul_one]
  done := by
    intro X hP hw hK hc i pins s σ H E I hf st hg
    subst hP hw hK
    obtain ⟨f0, f1, f2, f3, f4, f5⟩ := hf it (by simp)
    exact wpAny_pyNext_range_end (I.ok.hd hc) st (by have : n ≤ i := hg; omega) fun h' eb => ⟨rfl, I.turned (t' := s.toks) (fun b o hb e => eb b o hb e) f0 f1 f3 f4 f5⟩
  self := fun _ _ _ _ _ st h => wpAny_pyIter_rangeiter st h
end L2
namespace L2
open PySem PySem.Spec PyProof.Rows
section
variable {X : Cx} {tg : Expr}
theorem range_it {pins : List (Addr × Obj)} {σ : St} {H : Hp} {s : Shared} {R : It → Hp → Prop} {E : Value → Shared → Prop} {lo hi : Int} {t u v : Tok} {tk : Nat} (I : Inv X pins σ H s) (h1 : -(2 ^ 62) ≤ lo) (h2 : lo < 2 ^ 62) (h3 : -(2 ^ 62) ≤ hi) (h4 : hi < 2 ^ 62)
    (q : R (Itr lo (hi - lo).toNat) H) : wpAny (model X.prog X.w) X.A (pyIter (.ref s.heap.objs.size)) (PIE X pins σ tg R) E { s with heap := s.heap.push { cls := .type "range", data := .fields #[.int lo t, .int hi u, .int 1 v] }, toks := tk } := by
  refine wpAny_pyIter_range (IsRange.new ..) (small_one h1 h2 h3 h4) ?_
  have I1 : Inv X pins σ H { s with heap := s.heap.push { cls := .type "range", data := .fields #[.int lo t, .int hi u, .int 1 v] }, toks := tk } := I.kept fun b o e => Heap.get?_push_of_some _ e
  refine ⟨(s.heap.push { cls := .type "range", data := .fields #[.int lo t, .int hi u, .int 1 v] }).objs.size, [(s.heap.push { cls := .type "range", data := .fields #[.int lo t, .int hi u, .int 1 v] }).objs.size], _, _, H, rfl,
    I1.kept (t' := tk) fun b o e => Heap.get?_push_of_some _ e, turn_range _ lo (hi - lo).toNat, ?_, fun b hb => ?_, q⟩
  · have e1 : lo + ((0 : Nat) : Int) * 1 = lo := by simp
    have e2 : (((hi - lo).toNat : Nat) : Int) - ((0 : Nat) : Int) = Builtin.Range.rangeSize lo hi 1 := by rw [rangeSize_one]; split <;> omega
    show IsRangeIter _ _ (lo + ((0 : Nat) : Int) * 1) ((((hi - lo).toNat : Nat) : Int) - ((0 : Nat) : Int)) 1
    rw [e1, e2]
    exact Heap.get?_push_size _ rfl
  · have e : b = (s.heap.push { cls := .type "range", data := .fields #[.int lo t, .int hi u, .int 1 v] }).objs.size := by simpa using hb
    subst e
    exact I1.fpOk (Nat.le_refl _) (I1.hok.fresh (Nat.le_refl _))
def iRng1 (ta : TA) : TI := fun σ H R => ta σ H fun vs H1 => ∃ j : Int, vs = [.int j] ∧ -(2 ^ 62) ≤ j ∧ j < 2 ^ 62 ∧ R (Itr 0 j.toNat) H1
def iRng2 (ta : TA) : TI := fun σ H R => ta σ H fun vs H1 => ∃ i j : Int, vs = [.int i, .int j] ∧ (-(2 ^ 62) ≤ i ∧ i < 2 ^ 62 ∧ -(2 ^ 62) ≤ j ∧ j < 2 ^ 62) ∧ R (Itr i (j - i).toNat) H1
theorem pi_range1 {a : Expr} {ta : TA} {p pos : Pos} (hg : Gl X "range") (hm : X.mg "range" = none) (ha : PA X [a] ta) (hs : starEach [a] X.env = [(false, eval a X.env)] := by rfl) : PI X tg (.Call (.Name "range" p) [a] [] pos) (iRng1 ta) := by
  intro pins s σ H R I h
  refine Call_ (ld_blt I hg hm boot_range (PyProof.Rows.callWith_type1 (thn (ha pos pins s σ H _ I h) fun us s1 ⟨vs, H1, I1, r1, q1⟩ => ?_) hs rfl))
  obtain ⟨j, e, q1, q2, q⟩ := q1
  subst e
  cases r1 with
  | cons r rr =>
    cases rr
    obtain ⟨t, rfl⟩ := r
    exact call_range_1 (range_it I1 (by omega) (by omega) q1 q2 (by simpa using q))
theorem pi_range2 {a b : Expr} {ta : TA} {p pos : Pos} (hg : Gl X "range") (hm : X.mg "range" = none) (ha : PA X [a, b] ta) (hs : starEach [a, b] X.env = [(false, eval a X.env), (false, eval b X.env)] := by rfl) (hs2 : starEach [b] X.env = [(false, eval b X.env)] := by rfl) :
    PI X tg (.Call (.Name "range" p) [a, b] [] pos) (iRng2 ta) := by
  intro pins s σ H R I h
  refine Call_ (ld_blt I hg hm boot_range (PyProof.Rows.callWith_type1 (thn (ha pos pins s σ H _ I h) fun us s1 ⟨vs, H1, I1, r1, q1⟩ => ?_) (by rw [hs, hs2]) (by rw [hs2]; rfl)))
  obtain ⟨i, j, e, ⟨q1, q2, q3, q4⟩, q⟩ := q1
  subst e
  cases r1 with
  | cons r rr =>
    cases rr with
    | cons r' rr =>
      cases rr
      obtain ⟨t, rfl⟩ := r
      obtain ⟨t', rfl⟩ := r'
      exact call_range_2 (range_it I1 q1 q2 q3 q4 q)
def tFor (wi : TI) (g : TG) (tb : TS) : TS := fun D σ H => wi σ H fun J H1 => ∃ W : Nat → Nat → St → Hp → Prop, (∃ m, W 0 m σ H1) ∧ ∀ i m σ H, W i m σ H →
  (J.stop i H ∧ D.nx σ H) ∨ (J.go i H ∧ ∃ N : St → Hp → Prop, (∀ σ' H', N σ' H' → ∃ m', m' < m ∧ W (i + 1) m' σ' H') ∧ ∀ x H', J.yld i H x H' → g x σ H' fun σ2 H2 => tb { D with nx := N, ct := N, bk := D.nx } σ2 H2)
def pinsAt (fp : List Addr) (h : Heap) : List (Addr × Obj) := fp.filterMap fun b => (h.get? b).map fun o => (b, o)
theorem mem_pinsAt {fp : List Addr} {h : Heap} {b : Addr} {o : Obj} (hb : b ∈ fp) (e : h.get? b = some o) : (b, o) ∈ pinsAt fp h := List.mem_filterMap.mpr ⟨b, hb, by rw [e]; rfl⟩
theorem of_pinsAt {fp : List Addr} {h : Heap} {p : Addr × Obj} (hp : p ∈ pinsAt fp h) : p.1 ∈ fp ∧ h.get? p.1 = some p.2 := by
  obtain ⟨b, hb, e⟩ := List.mem_filterMap.mp hp
  cases q : h.get? b with
  | none => rw [q] at e; cases e
  | some o =>
    rw [q] at e
    have e' : (b, o) = p := Option.some.inj e
    subst e'
    exact ⟨hb, q⟩
theorem Inv.pinned {pins : List (Addr × Obj)} {σ : St} {H : Hp} {s : Shared} {fp : List Addr} (I : Inv X pins σ H s) (hf : ∀ b ∈ fp, FpOk X pins H b) (ho : ∀ b ∈ fp, ∃ o, s.heap.get? b = some o ∧ ∀ v, o.data ≠ .cell v) : Inv X (pins ++ pinsAt fp s.heap) σ H s :=
  I.pins_of fun p hp => (List.mem_append.mp hp).elim (fun z => I.pin p (List.mem_append_right _ z)) fun z => by
    obtain ⟨hb, e⟩ := of_pinsAt z
    obtain ⟨f0, f1, f2, _⟩ := hf p.1 hb
    obtain ⟨o, e', d⟩ := ho p.1 hb
    rw [e] at e'; cases e'
    exact ⟨e, f0, f1, f2, d⟩
theorem Inv.unpinned {pins pl : List (Addr × Obj)} {σ : St} {H : Hp} {s : Shared} (I : Inv X (pins ++ pl) σ H s) : Inv X pins σ H s := I.pins_of fun p hp => I.pin p (List.mem_append_right _ (List.mem_append_left _ hp))
theorem ps_for {iter : Expr} {body : List Stmt} {wi : TI} {g : TG} {tb : TS} {pos : Pos} (hp : PassesOwn (model X.prog X.w) X.A X.env X.xe) (hc : X.calm = true) (hi : PI X tg iter wi) (hg : PG X tg g) (hb : PSs X body tb)
    (hs : ∀ x, foldedSetIterable iter X.env x = pure x := by intro _; rfl) : PS X (.For tg iter body [] pos) (tFor wi g tb) := by
  intro pins s σ H D I h
  refine wpAny_For (thn (hi pins s σ H _ I h) fun v s1 h1 => thn h1 fun itv s2 h2 => ?_) hs
  obtain ⟨it, fp, tn, J, H2, e, I2, T, st2, f2, W, ⟨m0, w0⟩, turn⟩ := h2
  subst e
  have stat : ∀ {H' : Hp}, (∀ b ∈ fp, H' b = none) → ∀ b ∈ fp, FpOk X pins H' b := fun hn b hb => ⟨hn b hb, (f2 b hb).2⟩
  refine codeAny_forLoop_any (fun n s' => ∃ i σ' H', Inv X pins σ' H' s' ∧ tn i s'.heap ∧ (∀ b ∈ fp, H' b = none) ∧ W i n σ' H') ?_ m0 ⟨0, σ, H2, I2, st2, fun b hb => (f2 b hb).1, w0⟩
  rintro n s3 ⟨i, σ3, H3, I3, st3, fr3, w3⟩
  rcases turn i n σ3 H3 w3 with ⟨stop, qn⟩ | ⟨go, N, hN, step⟩
  · refine wpAny_passesOwn hp (thn (T.done X rfl rfl rfl hc i pins s3 σ3 H3 X.xe I3 (stat fr3) st3 stop) fun r s4 ⟨hr, I4⟩ => ?_)
    subst hr
    exact wpAny_execs_nil ⟨σ3, H3, I4, qn⟩
  · refine wpAny_passesOwn hp (thn (T.item X rfl rfl rfl hc i pins s3 σ3 H3 X.xe I3 (stat fr3) st3 go) fun r s4 ⟨u, hr, h4⟩ => ?_)
    subst hr
    refine wpAny_passesOwn hp (thn h4 fun _ s5 ⟨x, H5, I5, r5, y5, st5, fr5⟩ => ?_)
    have I5' := I5.pinned (stat fr5) (T.obj _ _ st5)
    refine wpAny_passesOwn hp (thn (hg _ s5 σ3 H5 x u _ I5' r5 (step x H5 y5)) fun _ s6 ⟨σ6, H6, I6, q6⟩ => ?_)
    refine wpAny_passesOwn hp (thn (hb _ s6 σ6 H6 _ I6 q6) fun f s7 q7 => ?_)
    have again : ∀ {σ7 : St} {H7 : Hp}, Inv X (pins ++ pinsAt fp s5.heap) σ7 H7 s7 → N σ7 H7 → ∃ m, m < n ∧ ∃ i σ' H', Inv X pins σ' H' s7 ∧ tn i s7.heap ∧ (∀ b ∈ fp, H' b = none) ∧ W i m σ' H' := fun {σ7 H7} I7 n7 => by
      obtain ⟨m', hm, w7⟩ := hN σ7 H7 n7
      refine ⟨m', hm, i + 1, σ7, H7, I7.unpinned, T.keep _ _ _ st5 fun b hb o e => (I7.pin (b, o) (List.mem_append_right _ (List.mem_append_right _ (mem_pinsAt hb e)))).1, fun b hb => ?_, w7⟩
      obtain ⟨o, e, d⟩ := T.obj _ _ st5 b hb
      exact (I7.pin (b, o) (List.mem_append_right _ (List.mem_append_right _ (mem_pinsAt hb e)))).2.1
    cases f with
    | next => obtain ⟨σ7, H7, I7, n7⟩ := q7; exact again I7 n7
    | cont => obtain ⟨σ7, H7, I7, n7⟩ := q7; exact again I7 n7
    | brk => obtain ⟨σ7, H7, I7, q7⟩ := q7; exact ⟨σ7, H7, I7.unpinned, q7⟩
    | ret v => obtain ⟨x7, σ7, H7, I7, r7, q7⟩ := q7; exact ⟨x7, σ7, H7, I7.unpinned, r7, q7⟩
end
end L2
namespace L2
open PySem PySem.Spec PyProof.Rows
abbrev R2 := V → V → Hp → VK → Prop
def OpR (X : Cx) (f : Value → Value → Sem Value) (r : R2) : Prop :=
  ∀ (pins : List (Addr × Obj)) (s : Shared) (σ : St) (H : Hp) (x y : V) (v u : Value) (Q : VK), Inv X pins σ H s → RelV x v → RelV y u → r x y H Q →
    wpAny (model X.prog X.w) X.A (f v u) (EP X pins σ Q) X.xe s
def UnR (X : Cx) (f : Value → Sem Value) (r : V → Hp → VK → Prop) : Prop :=
  ∀ (pins : List (Addr × Obj)) (s : Shared) (σ : St) (H : Hp) (x : V) (v : Value) (Q : VK), Inv X pins σ H s → RelV x v → r x H Q →
    wpAny (model X.prog X.w) X.A (f v) (EP X pins σ Q) X.xe s
def CallR (X : Cx) (f : Value) (r : List V → Hp → VK → Prop) : Prop :=
  ∀ (pins : List (Addr × Obj)) (s : Shared) (σ : St) (H : Hp) (xs : List V) (us : List Value) (Q : VK), Inv X pins σ H s → Vals xs us → r xs H Q →
    wpAny (model X.prog X.w) X.A (call f us) (EP X pins σ Q) X.xe s
def tOp (r : R2) (ta tb : TE) : TE := fun σ H Q => ta σ H fun x H1 => tb σ H1 fun y H2 => r x y H2 Q
def tUn (r : V → Hp → VK → Prop) (ta : TE) : TE := fun σ H Q => ta σ H fun x H1 => r x H1 Q
def rI (C : Int → Int → Prop) (g : Int → Int → V) : R2 := fun x y H Q => ∃ i j, x = .int i ∧ y = .int j ∧ C i j ∧ Q (g i j) H
def rI0 (g : Int → Int → V) : R2 := fun x y H Q => ∃ i j, x = .int i ∧ y = .int j ∧ Q (g i j) H
def rU (g : Int → V) : V → Hp → VK → Prop := fun x H Q => ∃ i, x = .int i ∧ Q (g i) H
section
variable {X : Cx} {a b c : Expr} {ta tb tc : TE} {pos : Pos}
theorem binT (ha : PE X a ta) (hb : PE X b tb) {pins : List (Addr × Obj)} {s : Shared} {σ : St} {H : Hp} {R : V → V → Hp → Prop} (I : Inv X pins σ H s)
    (h : ta σ H fun x H1 => tb σ H1 fun y H2 => R x y H2) {Q : Value → Shared → Prop} {f : Value → Value → Sem Value}
    (hf : ∀ v u s2 x y H2, Inv X pins σ H2 s2 → RelV x v → RelV y u → R x y H2 → wpAny (model X.prog X.w) X.A (f v u) Q X.xe s2) :
    wpAny (model X.prog X.w) X.A (eval a X.env) (fun v s₁ => wpAny (model X.prog X.w) X.A (eval b X.env) (fun u s₂ => wpAny (model X.prog X.w) X.A (f v u) Q X.xe s₂) X.xe s₁) X.xe s := by
  refine thn (ha pins s σ H _ I h) fun v s1 ⟨x, H1, I1, r1, q1⟩ => ?_
  refine thn (hb pins s1 σ H1 _ I1 q1) fun u s2 ⟨y, H2, I2, r2, q2⟩ => ?_
  exact hf v u s2 x y H2 I2 r1 r2 q2
theorem pe_op {op : Operator} {r : R2} (ho : OpR X (binaryOp op) r) (ha : PE X a ta) (hb : PE X b tb) : PE X (.BinOp a op b pos) (tOp r ta tb) := by
  intro pins s σ H Q I h
  exact wpAny_BinOp (binT ha hb I h fun v u s2 x y H2 I2 rx ry q => ho pins s2 σ H2 x y v u Q I2 rx ry q)
theorem pe_un {op : UnaryOp} {r : V → Hp → VK → Prop} (ho : UnR X (unaryOp op) r) (ha : PE X a ta) : PE X (.UnaryOp op a pos) (tUn r ta) := by
  intro pins s σ H Q I h
  exact UnaryOp_ (thn (ha pins s σ H _ I h) fun v s1 ⟨x, H1, I1, r1, q1⟩ => ho pins s1 σ H1 x v Q I1 r1 q1)
theorem opI {f : Value → Value → Sem Value} {C : Int → Int → Prop} {g : Int → Int → Int}
    (rule : ∀ (i j : Int) (t u : Tok) (s : Shared) (Q : Value → Shared → Prop) (E : Value → Shared → Prop), C i j → Q (.int (g i j) s.toks) { s with toks := s.toks + 1 } → wpAny (model X.prog X.w) X.A (f (.int i t) (.int j u)) Q E s) :
    OpR X f (rI C fun i j => .int (g i j)) := by
  intro pins s σ H x y v u Q I rx ry h
  obtain ⟨i, j, rfl, rfl, hc, q⟩ := h
  obtain ⟨t, rfl⟩ := rx
  obtain ⟨t', rfl⟩ := ry
  exact rule i j t t' s _ _ hc ⟨.int (g i j), H, I.tok _, ⟨_, rfl⟩, q⟩
theorem opI0 {f : Value → Value → Sem Value} {g : Int → Int → Int}
    (rule : ∀ (i j : Int) (t u : Tok) (s : Shared) (Q : Value → Shared → Prop) (E : Value → Shared → Prop), Q (.int (g i j) s.toks) { s with toks := s.toks + 1 } → wpAny (model X.prog X.w) X.A (f (.int i t) (.int j u)) Q E s) :
    OpR X f (rI0 fun i j => .int (g i j)) := by
  intro pins s σ H x y v u Q I rx ry h
  obtain ⟨i, j, rfl, rfl, q⟩ := h
  obtain ⟨t, rfl⟩ := rx
  obtain ⟨t', rfl⟩ := ry
  exact rule i j t t' s _ _ ⟨.int (g i j), H, I.tok _, ⟨_, rfl⟩, q⟩
theorem opB0 {f : Value → Value → Sem Value} {g : Int → Int → Bool}
    (rule : ∀ (i j : Int) (t u : Tok) (s : Shared) (Q : Value → Shared → Prop) (E : Value → Shared → Prop), Q (.bool (g i j)) s → wpAny (model X.prog X.w) X.A (f (.int i t) (.int j u)) Q E s) :
    OpR X f (rI0 fun i j => .bl (g i j)) := by
  intro pins s σ H x y v u Q I rx ry h
  obtain ⟨i, j, rfl, rfl, q⟩ := h
  obtain ⟨t, rfl⟩ := rx
  obtain ⟨t', rfl⟩ := ry
  exact rule i j t t' s _ _ ⟨.bl (g i j), H, I, rfl, q⟩
def CDiv (i j : Int) : Prop := 0 < j ∧ j < 1073741824
def CMul (i j : Int) : Prop := (-(2 ^ 64) < i ∧ i < 2 ^ 64) ∨ (-(2 ^ 64) < j ∧ j < 2 ^ 64)
theorem CMul.ok {i j : Int} (h : CMul i j) : IntMulOk i j := by
  rcases h with ⟨h1, h2⟩ | ⟨h1, h2⟩
  · exact .of_left (intBits_le_64 h1 h2)
  · exact .of_right (intBits_le_64 h1 h2)
theorem op_add : OpR X (binaryOp .Add) (rI0 fun i j => .int (i + j)) := opI0 fun _ _ _ _ _ _ _ q => add_int q
theorem op_sub : OpR X (binaryOp .Sub) (rI0 fun i j => .int (i - j)) := opI0 fun _ _ _ _ _ _ _ q => sub_int q
theorem op_mul : OpR X (binaryOp .Mult) (rI CMul fun i j => .int (i * j)) := opI fun _ _ _ _ _ _ _ hc q => mul_int q hc.ok
theorem op_fdiv : OpR X (binaryOp .FloorDiv) (rI CDiv fun i j => .int (i / j)) := opI fun i j _ _ _ _ _ hc q => by
  have h1 : (0 : Int) < j := hc.1
  have h2 : j < 1073741824 := hc.2
  exact floordiv_int (by omega) (by rw [Int.fdiv_eq_ediv_of_nonneg i (by omega)]; exact q) (.inl (PyProof.noPylong_small (by omega)))
theorem op_mod : OpR X (binaryOp .Mod) (rI (fun _ j => 0 < j) fun i j => .int (i % j)) := opI fun i j _ _ _ _ _ hc q => by
  have h1 : (0 : Int) < j := hc
  exact mod_int' (by omega) (by rw [Int.fmod_eq_emod_of_nonneg i (by omega)]; exact q)
theorem unI {f : Value → Sem Value} {g : Int → Int}
    (rule : ∀ (i : Int) (t : Tok) (s : Shared) (Q : Value → Shared → Prop) (E : Value → Shared → Prop), Q (.int (g i) s.toks) { s with toks := s.toks + 1 } → wpAny (model X.prog X.w) X.A (f (.int i t)) Q E s) :
    UnR X f (rU fun i => .int (g i)) := by
  intro pins s σ H x v Q I rx h
  obtain ⟨i, rfl, q⟩ := h
  obtain ⟨t, rfl⟩ := rx
  exact rule i t s _ _ ⟨.int (g i), H, I.tok _, ⟨_, rfl⟩, q⟩
theorem un_neg : UnR X (unaryOp .USub) (rU fun i => .int (-i)) := unI fun _ _ _ _ _ q => neg_int q
end
def scal : V → V → Bool
  | .non, .non => true | .non, .int _ => true | .int _, .non => true | .non, .bl _ => true | .bl _, .non => true | .non, .str _ => true | .str _, .non => true
  | .int _, .int _ => true | .bl _, .bl _ => true | .str _, .str _ => true | .byt _, .byt _ => true
  | .int _, .str _ => true | .str _, .int _ => true | .bl _, .str _ => true | .str _, .bl _ => true
  | _, _ => false
def rEq : R2 := fun x y H Q => scal x y = true ∧ Q (.bl (decide (x = y))) H
def rNe : R2 := fun x y H Q => scal x y = true ∧ Q (.bl (!decide (x = y))) H
theorem dec_int {i j : Int} : decide (V.int i = V.int j) = (i == j) := by
  rw [Bool.eq_iff_iff]
  simp
theorem dec_bl {i j : Bool} : decide (V.bl i = V.bl j) = (i == j) := by
  rw [Bool.eq_iff_iff]
  simp
theorem dec_str {i j : Str} : decide (V.str i = V.str j) = (i == j) := by
  rw [Bool.eq_iff_iff]
  simp
theorem dec_byt {i j : Array UInt8} : decide (V.byt i = V.byt j) = (i.toList == j.toList) := by
  rw [Bool.eq_iff_iff]
  cases i
  cases j
  simp
section
variable {X : Cx} {a b c : Expr} {ta tb tc : TE} {pos : Pos}
theorem fin_bl {pins : List (Addr × Obj)} {σ : St} {H : Hp} {s : Shared} {Q : VK} {k k' : Bool} (I : Inv X pins σ H s) (q : Q (.bl k) H) (e : k = k') : EP X pins σ Q (.bool k') s := by
  subst e
  exact ⟨.bl k, H, I, rfl, q⟩
theorem op_eq : OpR X (compareOp .Eq) rEq := by
  intro pins s σ H x y v u Q I rx ry h
  obtain ⟨hs, q⟩ := h
  cases x with
  | non =>
    cases rx
    cases y with
    | non => cases ry; exact PySem.EqNone.eq_none_none (fin_bl I q (by simp))
    | bl j => cases ry; exact PySem.EqNone.eq_none_bool (fin_bl I q (by simp))
    | int j => obtain ⟨t', rfl⟩ := ry; exact PySem.EqNone.eq_none_int (fin_bl I q (by simp))
    | str j => obtain ⟨t', rfl⟩ := ry; exact PySem.EqNone.eq_none_str (fin_bl I q (by simp))
    | _ => exact absurd (show false = true from hs) Bool.false_ne_true
  | bl i =>
    cases rx
    cases y with
    | non => cases ry; exact PySem.EqNone.eq_bool_none (fin_bl I q (by simp))
    | bl j => cases ry; exact eq_bool (fin_bl I q dec_bl)
    | str j => obtain ⟨t', rfl⟩ := ry; exact PySem.EqMixed.eq_bool_str (fin_bl I q (by simp))
    | _ => exact absurd (show false = true from hs) Bool.false_ne_true
  | int i =>
    obtain ⟨t, rfl⟩ := rx
    cases y with
    | non => cases ry; exact PySem.EqNone.eq_int_none (fin_bl I q (by simp))
    | int j => obtain ⟨t', rfl⟩ := ry; exact eq_int (fin_bl I q dec_int)
    | str j => obtain ⟨t', rfl⟩ := ry; exact PySem.EqMixed.eq_int_str (fin_bl I q (by simp))
    | _ => exact absurd (show false = true from hs) Bool.false_ne_true
  | str i =>
    obtain ⟨t, rfl⟩ := rx
    cases y with
    | non => cases ry; exact PySem.EqNone.eq_str_none (fin_bl I q (by simp))
    | bl j => cases ry; exact PySem.EqMixed.eq_str_bool (fin_bl I q (by simp))
    | int j => obtain ⟨t', rfl⟩ := ry; exact PySem.EqMixed.eq_str_int (fin_bl I q (by simp))
    | str j => obtain ⟨t', rfl⟩ := ry; exact eq_str (fin_bl I q dec_str)
    | _ => exact absurd (show false = true from hs) Bool.false_ne_true
  | byt i =>
    obtain ⟨t, rfl⟩ := rx
    cases y with
    | byt j => obtain ⟨t', rfl⟩ := ry; exact PySem.W.eq_bytes (fin_bl I q dec_byt)
    | _ => exact absurd (show false = true from hs) Bool.false_ne_true
  | _ => cases y <;> exact absurd (show false = true from hs) Bool.false_ne_true
theorem op_ne : OpR X (compareOp .NotEq) rNe := by
  intro pins s σ H x y v u Q I rx ry h
  obtain ⟨hs, q⟩ := h
  cases x with
  | non =>
    cases rx
    cases y with
    | non => cases ry; exact PySem.EqNone.ne_none_none (fin_bl I q (by simp))
    | bl j => cases ry; exact PySem.EqNone.ne_none_bool (fin_bl I q (by simp))
    | int j => obtain ⟨t', rfl⟩ := ry; exact PySem.EqNone.ne_none_int (fin_bl I q (by simp))
    | str j => obtain ⟨t', rfl⟩ := ry; exact PySem.EqNone.ne_none_str (fin_bl I q (by simp))
    | _ => exact absurd (show false = true from hs) Bool.false_ne_true
  | bl i =>
    cases rx
    cases y with
    | non => cases ry; exact PySem.EqNone.ne_bool_none (fin_bl I q (by simp))
    | bl j => cases ry; exact ne_bool (fin_bl I q (congrArg not dec_bl))
    | str j => obtain ⟨t', rfl⟩ := ry; exact PySem.EqMixed.ne_bool_str (fin_bl I q (by simp))
    | _ => exact absurd (show false = true from hs) Bool.false_ne_true
  | int i =>
    obtain ⟨t, rfl⟩ := rx
    cases y with
    | non => cases ry; exact PySem.EqNone.ne_int_none (fin_bl I q (by simp))
    | int j => obtain ⟨t', rfl⟩ := ry; exact ne_int (fin_bl I q (congrArg not dec_int))
    | str j => obtain ⟨t', rfl⟩ := ry; exact PySem.EqMixed.ne_int_str (fin_bl I q (by simp))
    | _ => exact absurd (show false = true from hs) Bool.false_ne_true
  | str i =>
    obtain ⟨t, rfl⟩ := rx
    cases y with
    | non => cases ry; exact PySem.EqNone.ne_str_none (fin_bl I q (by simp))
    | bl j => cases ry; exact PySem.EqMixed.ne_str_bool (fin_bl I q (by simp))
    | int j => obtain ⟨t', rfl⟩ := ry; exact PySem.EqMixed.ne_str_int (fin_bl I q (by simp))
    | str j => obtain ⟨t', rfl⟩ := ry; exact ne_str (fin_bl I q (congrArg not dec_str))
    | _ => exact absurd (show false = true from hs) Bool.false_ne_true
  | byt i =>
    obtain ⟨t, rfl⟩ := rx
    cases y with
    | byt j => obtain ⟨t', rfl⟩ := ry; exact PySem.W.ne_bytes (fin_bl I q (congrArg not dec_byt))
    | _ => exact absurd (show false = true from hs) Bool.false_ne_true
  | _ => cases y <;> exact absurd (show false = true from hs) Bool.false_ne_true
theorem op_lt : OpR X (compareOp .Lt) (rI0 fun i j => .bl (decide (i < j))) := opB0 fun _ _ _ _ _ _ _ q => lt_int q
theorem op_gt : OpR X (compareOp .Gt) (rI0 fun i j => .bl (decide (j < i))) := opB0 fun _ _ _ _ _ _ _ q => gt_int q
theorem op_lt_str : OpR X (compareOp .Lt) (fun x y H Q => ∃ i j, x = .str i ∧ y = .str j ∧ Q (.bl (decide (i.cps.toList < j.cps.toList))) H) := by
  intro pins s σ H x y v u Q I rx ry h
  obtain ⟨i, j, rfl, rfl, q⟩ := h
  obtain ⟨t, rfl⟩ := rx
  obtain ⟨t', rfl⟩ := ry
  exact lt_str (fin_bl I q rfl)
theorem op_in_str : OpR X (compareOp .In) (fun x y H Q => ∃ i j, x = .str i ∧ y = .str j ∧ Q (.bl (!(Builtin.Str.occurrences j i 0 j.length 1).isEmpty)) H) := by
  intro pins s σ H x y v u Q I rx ry h
  obtain ⟨i, j, rfl, rfl, q⟩ := h
  obtain ⟨t, rfl⟩ := rx
  obtain ⟨t', rfl⟩ := ry
  exact in_str (fin_bl I q rfl)
theorem OpR.or {f : Value → Value → Sem Value} {r r' : R2} (h : OpR X f r) (h' : OpR X f r') : OpR X f (fun x y H Q => r x y H Q ∨ r' x y H Q) := by
  intro pins s σ H x y v u Q I rx ry q
  rcases q with q | q
  · exact h pins s σ H x y v u Q I rx ry q
  · exact h' pins s σ H x y v u Q I rx ry q
theorem nomark (b : Expr) {op : CmpOp} (h : op ≠ .In := by decide) (h2 : op ≠ .NotIn := by decide) : behindInMarks op b = false := by
  have e1 : (op == CmpOp.In) = false := by cases op <;> first | rfl | exact absurd rfl h
  have e2 : (op == CmpOp.NotIn) = false := by cases op <;> first | rfl | exact absurd rfl h2
  cases b <;> simp [behindInMarks, e1, e2]
theorem pe_cmpR {op : CmpOp} {r : R2} (ho : OpR X (compareOp op) r) (ha : PE X a ta) (hb : PE X b tb) (hm : behindInMarks op b = false) : PE X (.Compare a [op] [b] pos) (tOp r ta tb) := by
  intro pins s σ H Q I h
  exact wpAny_Compare1 (binT ha hb I h fun v u s2 x y H2 I2 rx ry q => ho pins s2 σ H2 x y v u Q I2 rx ry q) hm
def tTest (t : TE) : TT := fun σ H Q => t σ H fun x H' => ∃ k, x = .bl k ∧ Q k H'
theorem pt_cmpR {op : CmpOp} {r : R2} (ho : OpR X (compareOp op) r) (ha : PE X a ta) (hb : PE X b tb) (hm : behindInMarks op b = false) : PT X (.Compare a [op] [b] pos) (tTest (tOp r ta tb)) := by
  intro pins s σ H Q I h
  refine wpAny_isTrue_Compare1 (thn (ha pins s σ H _ I h) fun v s1 ⟨x, H1, I1, r1, q1⟩ => thn (hb pins s1 σ H1 _ I1 q1) fun u s2 ⟨y, H2, I2, r2, q2⟩ =>
    thn (ho pins s2 σ H2 x y v u _ I2 r1 r2 q2) fun c s3 ⟨z, H3, I3, r3, k, e, q3⟩ => ?_) hm
  subst e
  cases r3
  exact wpAny_truthy_bool ⟨H3, I3, q3⟩
theorem line63 : (sizeLine : Nat) < 2 ^ 63 := by rw [sizeLine_eq]; decide
theorem op_add_str : OpR X (binaryOp .Add) (fun x y H Q => ∃ i j, x = .str i ∧ y = .str j ∧ i.length + j.length ≤ sizeLine ∧ Q (.str (i ++ j)) H) := by
  intro pins s σ H x y v u Q I rx ry h
  obtain ⟨i, j, rfl, rfl, hz, q⟩ := h
  obtain ⟨t, rfl⟩ := rx
  obtain ⟨t', rfl⟩ := ry
  exact add_str (fun t' tk => ⟨.str (i ++ j), H, I.tok _, ⟨_, rfl⟩, q⟩) hz
theorem vals1 {x : V} {us : List Value} (r : Vals [x] us) : ∃ u, us = [u] ∧ RelV x u := by
  cases r with
  | cons r1 r2 => cases r2; exact ⟨_, rfl, r1⟩
theorem vals2 {x y : V} {us : List Value} (r : Vals [x, y] us) : ∃ u w', us = [u, w'] ∧ RelV x u ∧ RelV y w' := by
  cases r with
  | cons r1 r2 =>
    cases r2 with
    | cons r3 r4 => cases r4; exact ⟨_, _, rfl, r1, r3⟩
def LenV (K : PySem.W.Frag) (x : V) (H : Hp) (n : Nat) : Prop :=
  match x with
  | .str y => y.length ≤ sizeLine ∧ n = y.length
  | .byt y => y.size ≤ sizeLine ∧ n = y.size
  | .ref p => (∃ xs, SqL K H p xs ∧ n = xs.length) ∨ ∃ xs, SqT K H p xs ∧ n = xs.length
  | _ => False
theorem call_len : CallR X (.builtin "len") (fun xs H Q => ∃ x n, xs = [x] ∧ LenV X.K x H n ∧ Q (.int n) H) := by
  intro pins s σ H xs us Q I r h
  obtain ⟨x, n, rfl, e, q⟩ := h
  obtain ⟨u, rfl, rx⟩ := vals1 r
  have hl := line63
  have hs : sizeLine = 16777216 := sizeLine_eq
  cases x with
  | str y =>
    obtain ⟨t, rfl⟩ := rx
    obtain ⟨hy, e'⟩ : y.length ≤ sizeLine ∧ n = y.length := e
    subst e'
    exact len_str (by omega) ⟨.int _, H, I.tok _, ⟨_, rfl⟩, q⟩
  | byt y =>
    obtain ⟨t, rfl⟩ := rx
    obtain ⟨hy, e'⟩ : y.size ≤ sizeLine ∧ n = y.size := e
    subst e'
    exact PySem.W.len_bytes (by omega) ⟨.int _, H, I.tok _, ⟨_, rfl⟩, q⟩
  | ref p =>
    cases rx
    have e' : (∃ xs, SqL X.K H p xs ∧ n = xs.length) ∨ ∃ xs, SqT X.K H p xs ∧ n = xs.length := e
    rcases e' with ⟨xs, hx, e'⟩ | ⟨xs, hx, e'⟩
    · subst e'
      obtain ⟨its, r', pl, hz⟩ := I.list hx
      have hlen := r'.length
      exact Calls.call_len_list pl.isList (by simp only [List.size_toArray]; omega) ⟨.int xs.length, H, I.tok _, ⟨_, by simp only [List.size_toArray]; rw [hlen]⟩, q⟩
    · subst e'
      obtain ⟨its, r', pl, hz⟩ := I.tuple hx
      have hlen := r'.length
      exact len_tuple pl (by simp only [List.size_toArray]; omega) ⟨.int xs.length, H, I.tok _, ⟨_, by simp only [List.size_toArray]; rw [hlen]⟩, q⟩
  | _ => exact (show False from e).elim
end
end L2
namespace L2
open PySem PySem.Spec PyProof.Rows
structure ObjM (h : Heap) (x dx C : Addr) (mA : Str → Option Value) : Prop where
  obj : h.get? x = some (PySem.W.instObj C dx)
  ns : h.Ns1 dx mA
  ne : dx ≠ x
theorem lookIn_ns {h : Heap} {dx : Addr} {mA : Str → Option Value} (n : h.Ns1 dx mA) : ∃ od, h.get? dx = some od ∧ ∀ name, PySem.W.lookIn name od = some (mA name) := by
  obtain ⟨o, es, ep, ho, hd, hk, _, hm⟩ := n
  refine ⟨o, ho, fun name => ?_⟩
  have e := hm name
  unfold nsFind findBy at e
  rw [← Array.find?_toList] at e
  unfold PySem.W.lookIn
  rw [hd]
  dsimp only
  split
  · rename_i y q
    rw [q] at e
    exact congrArg some e
  · rename_i q
    rw [q] at e
    have a : es.toList.any (·.refKey) = false := by
      rw [List.any_eq_false]
      intro y hy
      obtain ⟨z, t, hkey⟩ := hk y (Array.mem_toList_iff.mp hy)
      simp [DictEntry.refKey, hkey]
    have a' : ¬ es.toList.any (·.refKey) = true := by rw [a]; exact Bool.false_ne_true
    rw [if_neg a']
    exact congrArg some e
theorem ObjM.look {h : Heap} {x dx C : Addr} {mA : Str → Option Value} (I : ObjM h x dx C mA) : ∃ od, PySem.W.InstAt h x (PySem.W.instObj C dx) C (some od) ∧ ∀ name, PySem.W.lookIn name od = some (mA name) :=
  let ⟨od, ho, hl⟩ := lookIn_ns I.ns
  ⟨od, ⟨I.obj, rfl, rfl, ho⟩, hl⟩
section
variable {prog : Program} {w : World} {A : Around} {E : Value → Shared → Prop} {s : Shared} {K : PySem.W.Frag} {x dx C f : Addr} {mA : Str → Option Value} {name : Str} {v : Value}
end
theorem RelO.none_of {o : Option Value} (r : RelO none o) : o = none := by
  cases o with
  | none => rfl
  | some u => exact (show False from r).elim
section
variable {P : Program} {w : World} {H H' : Hp} {h h' : Heap} {a C dx : Addr} {fs fs' : List (Str × V)}
theorem ins_get (hok : HOk P w H h) (e : H a = some (.ins C dx fs)) : ∃ mA, ObjM h a dx C mA ∧ (∀ f, RelO (fs.lookup f) (mA f)) ∧ PySem.Within mA (fs.map (·.1)) ∧ fs.length ≤ 1000 ∧ H dx = some (.own a) := by
  obtain ⟨d, z, ne, ob, mA, n, r, q⟩ := (show ObjOk P w H h a (.ins C dx fs) from hok a _ e)
  exact ⟨mA, ⟨ob, n, ne⟩, r, q, z, d⟩
end
structure Cls (K : PySem.W.Frag) (C : Addr) : Prop where
  pg : PySem.W.plainGet K C Str.empty = true
  hd : PySem.W.hasDictIn K C = true
  po : PySem.W.plainOver K C = true
  sa : PySem.W.findIn K (.ref C) "__setattr__" = some (some (.builtin "object.__setattr__"))
theorem Cls.get {K : PySem.W.Frag} {C : Addr} (c : Cls K C) (f : Str) : PySem.W.plainGet K C f = true := c.pg
structure Con (K : PySem.W.Frag) (C : Addr) (f : Str) (v : V) (u : Value) : Prop where
  at_ : PySem.W.findIn K (.ref C) f = some (some u)
  rel : RelV v u
  get : PySem.W.specialIn K u "__get__" = some none
  cp : PySem.W.copiedNames.contains f = false
structure Meth (K : PySem.W.Frag) (C : Addr) (m : Str) (f : Addr) : Prop where
  at_ : PySem.W.findIn K (.ref C) m = some (some (.ref f))
  fn : PySem.W.isFn K (.ref f) = true
  kp : PySem.W.keepIn K (.ref f) = true
section
variable {X : Cx} {pins : List (Addr × Obj)} {σ : St} {H : Hp} {s : Shared} {a C dx : Addr} {fs : List (Str × V)} {f : Str} {v : V} {A : Around} {E : Value → Shared → Prop}
theorem Inv.made (I : Inv X pins σ H s) : Inv X pins σ (upd (upd H s.heap.objs.size (.own (s.heap.objs.size + 1))) (s.heap.objs.size + 1) (.ins C s.heap.objs.size []))
    { s with heap := (s.heap.push PySem.W.emptyDict).push (PySem.W.instObj C s.heap.objs.size) } := by
  have e1 : (s.heap.push PySem.W.emptyDict).get? s.heap.objs.size = some PySem.W.emptyDict := Heap.get?_push_size s.heap rfl
  have e2 : ((s.heap.push PySem.W.emptyDict).push (PySem.W.instObj C s.heap.objs.size)).get? (s.heap.objs.size + 1) = some (PySem.W.instObj C s.heap.objs.size) := by
    have := Heap.get?_push_size (s.heap.push PySem.W.emptyDict) (o := PySem.W.instObj C s.heap.objs.size) rfl
    rwa [Heap.size_push] at this
  have e3 : (s.heap.push PySem.W.emptyDict).Ns s.heap.objs.size (fun _ => none) := ⟨PySem.W.emptyDict, #[], _, e1, rfl, (fun e he => absurd he (by simp)), fun _ => rfl⟩
  have I1 := I.laid (a := s.heap.objs.size) (o := .own (s.heap.objs.size + 1)) (h' := s.heap.push PySem.W.emptyDict) (t' := s.toks) (fun b u q => Heap.get?_push_of_some _ q) (Nat.le_refl _) ⟨_, e1⟩
  refine I1.laid (a := s.heap.objs.size + 1) (o := .ins C s.heap.objs.size []) (t' := s.toks) (fun b u q => Heap.get?_push_of_some _ q) (Nat.le_of_eq (Heap.size_push _ _)) ?_
  have ne : s.heap.objs.size ≠ s.heap.objs.size + 1 := Nat.ne_of_lt (Nat.lt_succ_self _)
  refine ⟨by rw [upd_ne ne, upd_same], Nat.zero_le _, ne, e2, fun _ => none, (Heap.Ns1.of_empty e3).at fun o q => Heap.get?_push_of_some _ q, fun _ => True.intro, fun y hy => absurd rfl hy⟩
end
section
variable {X : Cx} {o e value : Expr} {f : Str} {pos pos' tpos : Pos} {ta tv : TE}
end
section
variable {X : Cx} {pins : List (Addr × Obj)} {σ : St} {H : Hp} {s : Shared} {A : Around} {E : Value → Shared → Prop} {Q : Value → Shared → Prop} {c : Value} {b : Bool}
inductive TyOf (K : PySem.W.Frag) (H : Hp) : V → Value → Prop where
  | non : TyOf K H .non (.type "NoneType")
  | bl (x : Bool) : TyOf K H (.bl x) (.type "bool")
  | int (i : Int) : TyOf K H (.int i) (.type "int")
  | str (x : Str) : TyOf K H (.str x) (.type "str")
  | flt (x : UInt64) : TyOf K H (.flt x) (.type "float")
  | lst {a : Addr} {xs : List V} (e : H a = some (.lst xs)) : TyOf K H (.ref a) (.type "list")
  | frz {a : Addr} {o : Obj} {xs : List V} (e : H a = some (.frz o (.lst xs))) : TyOf K H (.ref a) (.type "list")
  | tup {a : Addr} {xs : List V} (e : H a = some (.tup xs)) : TyOf K H (.ref a) (.type "tuple")
  | dK {a : Addr} {kvs : List (Key × V)} (e : H a = some (.dK kvs)) : TyOf K H (.ref a) (.type "dict")
  | dT {a : Addr} {kvs : List (List Key × V)} (e : H a = some (.dT kvs)) : TyOf K H (.ref a) (.type "dict")
  | ins {a C dx : Addr} {fs : List (Str × V)} (e : H a = some (.ins C dx fs)) (cl : Cls K C) (ha : PySem.W.findIn K (.ref C) "__class__" = some (some (.builtin "object.__class__")))
      (hn : PySem.W.specialIn K (.builtin "object.__class__") "__get__" = some (some (.builtin "getset_descriptor.__get__"))) (htk : PySem.W.takesIn K (.builtin "object.__class__") = some true)
      (hm : PySem.W.mroIn K C (.type "object") = some true) : TyOf K H (.ref a) (.ref C)
theorem isinst_ok {x : V} {u t : Value} (I : Inv X pins σ H s) (rx : RelV x u) (ty : TyOf X.K H x t) (e : PySem.W.kitOne X.K t c = some b) (h : ∀ tk, Q (.bool b) { s with toks := tk }) :
    wpAny (model X.prog X.w) A (call (.builtin "isinstance") [u, c]) Q E s := by
  cases ty with
  | non => cases (show u = Value.none from rx); exact PySem.W.kia_one PySem.W.kitx_none I.kIn True.intro e (fun z => nomatch z) h
  | bl y => cases (show u = Value.bool y from rx); exact PySem.W.kia_one PySem.W.kitx_bool I.kIn True.intro e (fun z => nomatch z) h
  | int i => obtain ⟨t, q⟩ := (show ∃ t, u = Value.int i t from rx); cases q; exact PySem.W.kia_one PySem.W.kitx_int I.kIn True.intro e (fun z => nomatch z) h
  | str y => obtain ⟨t, q⟩ := (show ∃ t, u = Value.str y t from rx); cases q; exact PySem.W.kia_one PySem.W.kitx_str I.kIn True.intro e (fun z => nomatch z) h
  | flt y => obtain ⟨t, q⟩ := (show ∃ t, u = Value.float y t from rx); cases q; exact PySem.W.kia_one PySem.W.kitx_float I.kIn True.intro e (fun z => nomatch z) h
  | @lst a xs ea =>
    cases (show u = Value.ref a from rx)
    obtain ⟨_, _, n, _, h1⟩ := (show ObjOk X.prog X.w H s.heap a (.lst xs) from I.hok a _ ea)
    exact PySem.W.kia_one PySem.W.kitx_list I.kIn ⟨_, h1, rfl⟩ e (fun z => nomatch z) h
  | @frz a ob xs ea =>
    cases (show u = Value.ref a from rx)
    obtain ⟨_, _, _, n, _, h1⟩ := (show ObjOk X.prog X.w H s.heap a (.frz ob (.lst xs)) from I.hok a _ ea)
    exact PySem.W.kia_one PySem.W.kitx_list I.kIn ⟨_, h1, rfl⟩ e (fun z => nomatch z) h
  | @tup a xs ea =>
    cases (show u = Value.ref a from rx)
    obtain ⟨_, _, _, p⟩ := (show ObjOk X.prog X.w H s.heap a (.tup xs) from I.hok a _ ea)
    obtain ⟨o, h1, h2, _⟩ := p
    exact PySem.W.kia_one PySem.W.kitx_tuple I.kIn ⟨o, h1, h2⟩ e (fun z => nomatch z) h
  | @dK a kvs ea =>
    cases (show u = Value.ref a from rx)
    obtain ⟨_, _, vs, _, p⟩ := (show ObjOk X.prog X.w H s.heap a (.dK kvs) from I.hok a _ ea)
    obtain ⟨o, es, ep, h1, h2, _⟩ := p
    exact PySem.W.kia_one PySem.W.kitx_dict I.kIn ⟨o, h1, h2.1⟩ e (fun z => nomatch z) h
  | @dT a kvs ea =>
    cases (show u = Value.ref a from rx)
    obtain ⟨_, _, xs, _, o, es, ep, h1, h2, _⟩ := (show ObjOk X.prog X.w H s.heap a (.dT kvs) from I.hok a _ ea)
    exact PySem.W.kia_one PySem.W.kitx_dict I.kIn ⟨o, h1, h2.1⟩ e (fun z => nomatch z) h
  | @ins a C dx fs ea cl ha hn htk hm =>
    cases (show u = Value.ref a from rx)
    obtain ⟨mA, O, _⟩ := ins_get I.hok ea
    obtain ⟨od, J, _⟩ := O.look
    exact PySem.W.kia_one (PySem.W.kitx_own (cl.get _) cl.hd ha hn htk hm) I.kIn J e (fun z => nomatch z) h
end
end L2
namespace L2
open PySem PySem.Spec PyProof.Rows
structure Room (k : Nat) (A : Around) : Prop where
  hd : A.handled = none
  dp : A.depth + 3 * k + 5 < recursionLimit
  un : A.units + 16 * k + 200 < cLine
theorem Room.mono {j k : Nat} {A : Around} (r : Room k A) (h : j ≤ k) : Room j A := ⟨r.hd, by have := r.dp; omega, by have := r.un; omega⟩
theorem Room.deeper {k : Nat} {A : Around} (r : Room (k + 1) A) (env : Env) : Room k (A.deeper env) :=
  ⟨r.hd, by have := r.dp; show A.depth + 1 + 3 * k + 5 < _; omega, by have := r.un; show A.units + 3 + 16 * k + 200 < _; omega⟩
theorem Room.in1 {k : Nat} {A : Around} (r : Room (k + 1) A) : Room k A.in1 :=
  ⟨r.hd, by have := r.dp; show A.depth + 3 * k + 5 < _; omega, by have := r.un; show A.units + 1 + 16 * k + 200 < _; omega⟩
theorem make_depth {A : Around} {C : Addr} {us : List Value} {kw : List (Str × Value)} : (A.under (.builtin "type.__call__" ⟨.ref C :: us, kw⟩)).depth = A.depth + 1 := by
  first | rfl | simp [Around.under, Code.weight, Code.isCreation, Code.isGuard, Code.isCaller, Code.frames, Code.isFrame, guardIds]
theorem make_units {A : Around} {C : Addr} {us : List Value} {kw : List (Str × Value)} : (A.under (.builtin "type.__call__" ⟨.ref C :: us, kw⟩)).units = A.units + 1 := by
  first | rfl | simp [Around.under, Code.cUnits, Code.frames, Code.isFrame]
theorem Room.make {k : Nat} {A : Around} (r : Room (k + 1) A) (C : Addr) (us : List Value) (kw : List (Str × Value)) : Room k (A.under (.builtin "type.__call__" ⟨.ref C :: us, kw⟩)) :=
  ⟨r.hd, by have := r.dp; rw [make_depth]; omega, by have := r.un; rw [make_units]; omega⟩
theorem Room.depth {k : Nat} {A : Around} (r : Room k A) : A.depth < recursionLimit := by have := r.dp; omega
theorem Room.units {k : Nat} {A : Around} (r : Room k A) : A.units + 64 < cLine := by have := r.un; omega
theorem Room.units0 {k : Nat} {A : Around} (r : Room k A) : A.units < cLine := by have := r.un; omega
def tNil : TA := fun _ H Q => Q [] H
def tCons (ta : TE) (tr : TA) : TA := fun σ H Q => ta σ H fun x H1 => tr σ H1 fun xs H2 => Q (x :: xs) H2
section
variable {X : Cx} {e : Expr} {es : List Expr} {te : TE} {t : TA} {pos : Pos}
theorem pa_nil : PA X [] tNil := fun _ _ _ _ H Q I h => Calls.spliced_nil ⟨[], H, I, .nil, h⟩
theorem pa_cons (ha : PE X e te) (hr : PA X es t) (hs : starEach (e :: es) X.env = (false, eval e X.env) :: starEach es X.env := by rfl) : PA X (e :: es) (tCons te t) := by
  intro pos pins s σ H Q I h
  rw [hs]
  show wpAny _ _ (spliced ((false, eval e X.env) :: backTo pos (starEach es X.env))) _ _ s
  refine Calls.spliced_cons (thn (ha pins s σ H _ I h) fun u s1 ⟨x, H1, I1, r1, q1⟩ => ?_)
  exact thn (hr pos pins s1 σ H1 _ I1 q1) fun us s2 ⟨xs, H2, I2, r2, q2⟩ => ⟨x :: xs, H2, I2, .cons r1 r2, q2⟩
def tTup (t : TA) : TE := fun σ H Q => t σ H fun xs H1 => xs.length ≤ sizeLine ∧ ∀ p, H1 p = none → Q (.ref p) (upd H1 p (.tup xs))
def tLst (t : TA) : TE := fun σ H Q => t σ H fun xs H1 => xs.length ≤ sizeLine ∧ ∀ p, H1 p = none → Q (.ref p) (upd H1 p (.lst xs))
theorem pe_tup {x1} (h : PA X es t) : PE X (.Tuple es x1 pos) (tTup t) := by
  intro pins s σ H Q I hq
  refine wpAny_Tuple_spliced (thn (h pos pins s σ H _ I hq) fun us s1 ⟨xs, H1, I1, r, z, q⟩ => ⟨by rw [← r.length]; exact z, ?_⟩)
  have hf : H1 s1.heap.objs.size = none := I1.hok.fresh (Nat.le_refl _)
  refine ⟨.ref s1.heap.objs.size, upd H1 s1.heap.objs.size (.tup xs), I1.laid (t' := s1.toks) (fun b u e => Heap.get?_push_of_some _ e) (Nat.le_refl _) ?_, rfl, q _ hf⟩
  exact ⟨z, us, r, ⟨_, Heap.get?_push_size _ rfl, rfl, _, rfl⟩⟩
theorem pe_lst (h : PA X es t) : PE X (.List es pos) (tLst t) := by
  intro pins s σ H Q I hq
  refine wpAny_List_spliced (thn (h pos pins s σ H _ I hq) fun us s1 ⟨xs, H1, I1, r, z, q⟩ => ⟨by rw [← r.length]; exact z, ?_⟩)
  have hf : H1 s1.heap.objs.size = none := I1.hok.fresh (Nat.le_refl _)
  refine ⟨.ref s1.heap.objs.size, upd H1 s1.heap.objs.size (.lst xs), I1.laid (t' := s1.toks) (fun b u e => Heap.get?_push_of_some _ e) (Nat.le_refl _) ?_, rfl, q _ hf⟩
  exact ⟨z, us, 0, r, Heap.get?_push_size _ rfl⟩
end
abbrev Sp := List V → Hp → VK → XK → Prop
abbrev CXT := List Env → Hp → Shared → XK → Value → Shared → Prop
structure Env0 (P : Program) (w : World) (K : PySem.W.Frag) (mg : Str → Option Value) (base : Heap) (A : Around) (outer : List Env) (s : Shared) (H : Hp) : Prop where
  frames : A.frames = some outer
  mod : Mod K mg base
  bs : ∀ b o, base.get? b = some o → s.heap.get? b = some o ∧ H b = none
  bsz : base.objs.size ≤ s.heap.objs.size
  funs : s.heap.FunFrames base outer
  frf : ∀ b ∈ frs outer, H b = none
  hok : HOk P w H s.heap
  bare : AllBare s.gens
def CE (outer : List Env) (P : Program) (w : World) (H : Hp) (s : Shared) (Q : VK) (u : Value) (s' : Shared) : Prop :=
  ∃ v H', s'.os = s.os ∧ AllBare s'.gens ∧ Un (frs outer) [] H H' s.heap s'.heap ∧ HOk P w H' s'.heap ∧ RelV v u ∧ Q v H'
def CR (CX : CXT) (outer : List Env) (P : Program) (w : World) (H : Hp) (s : Shared) (Q : VK) (E : XK) (r : Result) (s' : Shared) : Prop :=
  match r with
  | .ok (.ret u) => CE outer P w H s Q u s'
  | .ok _ => False
  | .error e => CX outer H s E e s'
structure FnOk (P : Program) (w : World) (K : PySem.W.Frag) (mg : Str → Option Value) (base : Heap) (CX : CXT) (k : Nat) (f : Addr) (fd : FuncData) (ps : List Str) (sp : Sp) : Prop where
  len : ∀ vs H Q E, sp vs H Q E → vs.length = ps.length
  run : ∀ (A : Around) (outer : List Env) (s : Shared) (H : Hp) (args : Args) (us : List Value) (vs : List V) (Q : VK) (E : XK), Room k A → Env0 P w K mg base A outer s H → BindsTo s fd args (ps.zip us) → Vals vs us → sp vs H Q E →
    codeAny (model P w) A (.call (.ref f) args) (CR CX outer P w H s Q E) s
theorem FnOk.mono {P : Program} {w : World} {K : PySem.W.Frag} {mg : Str → Option Value} {base : Heap} {CX : CXT} {j k : Nat} {f : Addr} {fd : FuncData} {ps : List Str} {sp : Sp} (F : FnOk P w K mg base CX j f fd ps sp) (h : j ≤ k) :
    FnOk P w K mg base CX k f fd ps sp := ⟨F.len, fun A outer s H args us vs Q E hr => F.run A outer s H args us vs Q E (hr.mono h)⟩
theorem FnOk.imp {P : Program} {w : World} {K : PySem.W.Frag} {mg : Str → Option Value} {base : Heap} {CX : CXT} {k : Nat} {f : Addr} {fd : FuncData} {ps : List Str} {sp sp' : Sp} (F : FnOk P w K mg base CX k f fd ps sp)
    (h : ∀ vs H Q E, sp' vs H Q E → sp vs H Q E) : FnOk P w K mg base CX k f fd ps sp' :=
  ⟨fun vs H Q E q => F.len vs H Q E (h _ _ _ _ q), fun A outer s H args us vs Q E hr he hb hv hs => F.run A outer s H args us vs Q E hr he hb hv (h _ _ _ _ hs)⟩
theorem Env0.make {P : Program} {w : World} {K : PySem.W.Frag} {mg : Str → Option Value} {base : Heap} {A : Around} {outer : List Env} {s : Shared} {H : Hp} (e : Env0 P w K mg base A outer s H) (C : Addr) (us : List Value) (kw : List (Str × Value)) :
    Env0 P w K mg base (A.under (.builtin "type.__call__" ⟨.ref C :: us, kw⟩)) outer s H := ⟨by first | exact e.frames | (simpa [Around.under, Code.envs, Code.isFrame, pushEnvs] using e.frames), e.mod, e.bs, e.bsz, e.funs, e.frf, e.hok, e.bare⟩
theorem Env0.in1 {P : Program} {w : World} {K : PySem.W.Frag} {mg : Str → Option Value} {base : Heap} {A : Around} {outer : List Env} {s : Shared} {H : Hp} (e : Env0 P w K mg base A outer s H) :
    Env0 P w K mg base A.in1 outer s H := ⟨e.frames, e.mod, e.bs, e.bsz, e.funs, e.frf, e.hok, e.bare⟩
section
variable {X : Cx} {pins : List (Addr × Obj)} {σ : St} {H : Hp} {s s' : Shared}
theorem Inv.env0 (I : Inv X pins σ H s) : Env0 X.prog X.w X.K X.mg X.base X.A X.stack s H :=
  ⟨I.ok.frames, I.ok.mod, I.bs, Nat.le_trans I.ok.bsz I.sz, I.stack, I.stkFree, I.hok, I.bare⟩
theorem Inv.after {Q : VK} {u : Value} (I : Inv X pins σ H s) (h : CE X.stack X.prog X.w H s Q u s') : EP X pins σ Q u s' := by
  obtain ⟨v, H', os, bare, un, hok, r, q⟩ := h
  obtain ⟨hh, g, d, t, os'⟩ := s'
  obtain rfl : os' = s.os := os
  exact ⟨v, H', I.call (h' := hh) (g' := g) (d' := d) (t' := t) (ch := []) un hok bare (fun b z => absurd z (by simp)), r, q⟩
end
def tCall (sp : Sp) (dvs : List V) (E : XK) (t : TA) : TE := fun σ H Q => t σ H fun vs H1 => sp (vs ++ dvs) H1 Q E
def Binds (K : PySem.W.Frag) (fd : FuncData) (ps : List Str) (ds : List Value) : Prop :=
  ∀ (s : Shared) (us : List Value), K.In s.heap → (us ++ ds).length = ps.length → BindsTo s fd ⟨us, []⟩ (ps.zip (us ++ ds))
theorem Binds.all {K : PySem.W.Frag} {fd : FuncData} {ps : List Str} (h : ∀ us : List Value, us.length = ps.length → bindArgs fd ⟨us, []⟩ = pure (ps.zip us)) : Binds K fd ps [] := fun s us _ hl => by
  rw [List.append_nil] at hl ⊢
  exact .of_eq (h us hl)
def Passes (CX : CXT) (X : Cx) (E : XK) : Prop := ∀ (pins : List (Addr × Obj)) (σ : St) (H : Hp) (s : Shared) (e : Value) (s' : Shared), Inv X pins σ H s → CX X.stack H s E e s' → X.xe e s'
section
variable {X : Cx} {CX : CXT} {k : Nat} {f C : Addr} {fd : FuncData} {ps : List Str} {sp : Sp} {dvs : List V} {ds : List Value} {E : XK} {x m : Str} {p pos apos : Pos} {e o : Expr} {es : List Expr} {ta : TE} {t : TA}
theorem run_fn {pins : List (Addr × Obj)} {σ : St} {H : Hp} {s : Shared} {Q : VK} {us : List Value} {vs : List V} (F : FnOk X.prog X.w X.K X.mg X.base CX k f fd ps sp) (hr : Room k X.A) (hb : Binds X.K fd ps ds) (hd : Vals dvs ds) (hx : Passes CX X E)
    (I : Inv X pins σ H s) (r : Vals vs us) (h : sp (vs ++ dvs) H Q E) : wpAny (model X.prog X.w) X.A (call (.ref f) us) (EP X pins σ Q) X.xe s := by
  have r2 : Vals (vs ++ dvs) (us ++ ds) := r.append hd
  have hl : (us ++ ds).length = ps.length := by rw [← r2.length]; exact F.len _ _ _ _ h
  refine wpAny_call (codeAny_mono (F.run X.A X.stack s H ⟨us, []⟩ (us ++ ds) (vs ++ dvs) Q E hr I.env0 (hb s us I.kIn hl) r2 h) fun r s' hq => ?_)
  cases r with
  | error e => exact hx pins σ H s e s' I hq
  | ok fl =>
    cases fl with
    | ret u => exact I.after hq
    | next => exact False.elim hq
    | brk => exact False.elim hq
    | cont => exact False.elim hq
theorem pe_call (F : FnOk X.prog X.w X.K X.mg X.base CX k f fd ps sp) (hr : Room k X.A) (hg : Gl X x) (hm : X.mg x = some (.ref f)) (hk : PySem.W.keepIn X.K (.ref f) = true) (hb : Binds X.K fd ps ds) (hd : Vals dvs ds) (hx : Passes CX X E)
    (ha : PA X (e :: es) t) (hdb : (x == ("__debug__" : Str)) = false := by decide) (he : starEach (e :: es) X.env = (false, eval e X.env) :: starEach es X.env := by rfl) (hpl : (backTo pos (starEach es X.env)).any (·.1) = false := by rfl) :
    PE X (.Call (.Name x p) (e :: es) [] pos) (tCall sp dvs E t) := by
  intro pins s σ H Q I h
  refine wpAny_Call_Name_kw (ld_glob I hg hm ?_ hdb)
  refine PySem.W.callWith_K (h₀ := X.base) I.ok.mod.kin hk (thn (ha pos pins s σ H _ I h) fun us s1 ⟨vs, H1, I1, r, q⟩ => ⟨I1.kIn, ?_⟩) he hpl
  exact run_fn F hr hb hd hx I1 r q
structure Mk (K : PySem.W.Frag) (C f : Addr) : Prop where
  makes : PySem.W.makesIn K C = true
  init : PySem.W.findIn K (.ref C) "__init__" = some (some (.ref f))
  fn : PySem.W.isFn K (.ref f) = true
  kp : PySem.W.keepIn K (.ref C) = true
end
section
variable {X : Cx} {CX : CXT} {k : Nat} {f C : Addr} {fd : FuncData} {ps ks : List Str} {sp : Sp} {E : XK} {x m : Str} {p pos apos kpos : Pos} {e o : Expr} {es : List Expr} {kws : List Keyword} {te ta : TE} {t tk : TA} {nm : Option Str}
structure KBinds (K : PySem.W.Frag) (fd : FuncData) (ps ks : List Str) (g : List Value → List Value → List Value) (gV : List V → List V → List V) : Prop where
  to : ∀ (s : Shared) (us ws : List Value), K.In s.heap → (g us ws).length = ps.length → BindsTo s fd ⟨us, ks.zip ws⟩ (ps.zip (g us ws))
  rel : ∀ {vs : List V} {us : List Value} {zs : List V} {ws : List Value}, Vals vs us → Vals zs ws → Vals (gV vs zs) (g us ws)
variable {g : List Value → List Value → List Value} {gV : List V → List V → List V}
end
structure FnScope (N P : List Str) (sc : Scope) : Prop where
  kind : sc.kind = .function
  co : sc.isCoroutine = false
  gen : sc.isGenerator = false
  nd : N.Nodup
  pre : N.take P.length = P
  par : ∀ x ∈ P, sc.names.lookup x = some .local ∨ sc.names.lookup x = some .cell
  nofree : ∀ y ∈ sc.names, y.2 ≠ .free
theorem bindL_out {kindOf : Str → Option NameKind} {x : Str} : ∀ {binds : List (Str × Value)} {m : Str → Option Value}, (∀ v, (x, v) ∉ binds) → bindL kindOf binds m x = m x
  | [], _, _ => rfl
  | (n, v) :: r, m, h => by
    unfold bindL
    rw [bindL_out fun w hw => h w (List.mem_cons_of_mem _ hw)]
    split
    · have : x ≠ n := by rintro rfl; exact h v List.mem_cons_self
      simp [this]
    · rfl
theorem bindC_out {kindOf : Str → Option NameKind} {x : Str} : ∀ {binds : List (Str × Value)} {m : Str → Option Value}, (∀ v, (x, v) ∉ binds) → bindC kindOf binds m x = m x
  | [], _, _ => rfl
  | (n, v) :: r, m, h => by
    unfold bindC
    rw [bindC_out fun w hw => h w (List.mem_cons_of_mem _ hw)]
    split
    · rfl
    · have : x ≠ n := by rintro rfl; exact h v List.mem_cons_self
      simp [this]
theorem bindL_get {kindOf : Str → Option NameKind} {x : Str} {v : Value} : ∀ {P : List Str} {vs : List Value} {i : Nat} {m : Str → Option Value}, P.Nodup → P[i]? = some x → vs[i]? = some v → kindOf x = some .local →
    bindL kindOf (P.zip vs) m x = some v
  | [], _, _, _, _, h, _, _ => by simp at h
  | _ :: _, [], _, _, _, _, h, _ => by simp at h
  | p :: P, w :: vs, 0, m, nd, h1, h2, hk => by
    simp at h1 h2; subst h1; subst h2
    show bindL kindOf ((p, w) :: P.zip vs) m p = _
    unfold bindL
    rw [bindL_out fun v hv => (List.nodup_cons.mp nd).1 (List.of_mem_zip hv).1, if_pos hk]
    simp
  | p :: P, w :: vs, i + 1, m, nd, h1, h2, hk => by
    show bindL kindOf ((p, w) :: P.zip vs) m x = _
    unfold bindL
    exact bindL_get (i := i) (List.nodup_cons.mp nd).2 (by simpa using h1) (by simpa using h2) hk
theorem bindC_get {kindOf : Str → Option NameKind} {x : Str} {v : Value} : ∀ {P : List Str} {vs : List Value} {i : Nat} {m : Str → Option Value}, P.Nodup → P[i]? = some x → vs[i]? = some v → kindOf x ≠ some .local →
    bindC kindOf (P.zip vs) m x = some v
  | [], _, _, _, _, h, _, _ => by simp at h
  | _ :: _, [], _, _, _, _, h, _ => by simp at h
  | p :: P, w :: vs, 0, m, nd, h1, h2, hk => by
    simp at h1 h2; subst h1; subst h2
    show bindC kindOf ((p, w) :: P.zip vs) m p = _
    unfold bindC
    rw [bindC_out fun v hv => (List.nodup_cons.mp nd).1 (List.of_mem_zip hv).1, if_neg hk]
    simp
  | p :: P, w :: vs, i + 1, m, nd, h1, h2, hk => by
    show bindC kindOf ((p, w) :: P.zip vs) m x = _
    unfold bindC
    exact bindC_get (i := i) (List.nodup_cons.mp nd).2 (by simpa using h1) (by simpa using h2) hk
def start (N : List Str) (vs : List V) : St := vs.map some ++ List.replicate (N.length - vs.length) none
def cxOf (CX : CXT) (P : Program) (w : World) (K : PySem.W.Frag) (mg : Str → Option Value) (base : Heap) (N : List Str) (qual : Str) (scope : Scope) (f : Addr) (cd : Value) (A : Around) (outer : List Env) (s : Shared) (H : Hp) (E : XK) : Cx where
  prog := P
  w := w
  K := K
  mg := mg
  base := base
  A := A.deeper (envOfC qual scope s.heap.objs.size f cd)
  N := N
  s₀ := s
  H₀ := H
  env := envOfC qual scope s.heap.objs.size f cd
  outer := outer
  stack := envOfC qual scope s.heap.objs.size f cd :: outer
  ex := []
  calm := true
  fn := fun _ => true
  pn := []
  xe := fun e s' => wpAny (model P w) (A.deeper (envOfC qual scope s.heap.objs.size f cd)) (leaving (envOfC qual scope s.heap.objs.size f cd) e) (fun _ s'' => CX outer H s E e s'') (fun e' s'' => CX outer H s E e' s'') s'
theorem cell_has {sc : Scope} {n : Nat} {x : Str} (h : sc.names.lookup x = some .cell) : ∃ c, (cellsFrom n sc.names []).lookup x = some c := by
  have q := PySem.W.cellsFrom_some sc.names n [] (.inl h)
  exact Option.isSome_iff_exists.mp q
theorem inv_start {CX : CXT} {P : Program} {w : World} {K : PySem.W.Frag} {mg : Str → Option Value} {base : Heap} {N ps : List Str} {qual : Str} {scope : Scope} {f : Addr} {cd : Value} {A : Around} {outer : List Env} {s s1 : Shared} {H : Hp} {E : XK} {us : List Value} {vs : List V}
    (S : FnScope N ps scope) (hd : A.handled = none) (e0 : Env0 P w K mg base A outer s H) (hl : vs.length = ps.length) (r : Vals vs us)
    (x : InCallC s s.heap.objs.size (bindL (envOfC qual scope s.heap.objs.size f cd).kindOf (ps.zip us) fun _ => none) (cellsFrom (s.heap.objs.size + 1) scope.names []) (bindC (envOfC qual scope s.heap.objs.size f cd).kindOf (ps.zip us) fun _ => none) s1) :
    Inv (cxOf CX P w K mg base N qual scope f cd A outer s H E) [] (start N vs) H s1 := by
  have hpl : ps.length ≤ N.length := by have := congrArg List.length S.pre; rw [List.length_take] at this; omega
  obtain ⟨h1, tk, rfl, hk⟩ := x.done
  have noA : ∀ b : Addr, b ∉ (cxOf CX P w K mg base N qual scope f cd A outer s H E).ex := fun b z => absurd (show b ∈ ([] : List Addr) from z) (by simp)
  refine ⟨⟨e0.mod, S.kind, rfl, rfl, Nat.le_refl _, fun y z c h1 h2 => ?_, fun y hy => ?_, fun y c _ h => ?_, fun _ => hd, Around.frames_deeper e0.frames, .inr ⟨rfl, rfl⟩, fun b z => absurd z (noA b), e0.bs, e0.bsz, fun b _ _ => noA b, fun b z => absurd z (noA b), e0.funs, e0.frf⟩,
    rfl, e0.bare, Un.kept hk, ⟨_, x.toInCall.ns, fun i y v h1 h2 h3 => ?_⟩, fun y c h => ⟨_, x.cell y c h⟩, e0.hok.fresh (Nat.le_refl _), fun y c h => ?_, fun p hp => absurd (show p ∈ ([] : List (Addr × Obj)) from hp) (by simp), e0.hok.kept hk, ?_⟩
  · exact name_of_addr x.apart (PySem.mem_of_lookup h1) (PySem.mem_of_lookup h2)
  · have hy : scope.names.lookup y = some .cell ∨ scope.names.lookup y = some .free := hy
    rcases hy with hy | hy
    · exact cell_has hy
    · exact absurd rfl (S.nofree _ (PySem.mem_of_lookup hy))
  · exact Nat.le_of_lt (x.above y c (PySem.mem_of_lookup h))
  · have hi : i < vs.length := by
      unfold start at h2
      by_cases hi : i < vs.length
      · exact hi
      · rw [List.getElem?_append_right (by simpa using hi)] at h2
        rw [List.getElem?_replicate] at h2
        split at h2 <;> cases h2
    have ha : vs[i]? = some v := by
      unfold start at h2
      rw [List.getElem?_append_left (by simpa using hi), List.getElem?_map] at h2
      cases e : vs[i]? with
      | none => rw [e] at h2; cases h2
      | some a => rw [e] at h2; cases h2; rfl
    obtain ⟨u, hu, rv⟩ := r.get ha
    have hp : ps[i]? = some y := by
      rw [← S.pre, List.getElem?_take_of_lt (by omega)]; exact h1
    have ndP : ps.Nodup := by rw [← S.pre]; exact S.nd.sublist (List.take_sublist _ _)
    refine ⟨u, rv, ?_⟩
    rcases S.par y (List.mem_of_getElem? hp) with k | k
    · exact .inl ⟨k, bindL_get ndP hp hu k⟩
    · obtain ⟨c, e⟩ := cell_has (n := s.heap.objs.size + 1) k
      refine .inr ⟨.inl k, c, e, ?_⟩
      have q := x.cell y c e
      rw [bindC_get ndP hp hu (by show scope.names.lookup y ≠ _; rw [k]; decide)] at q
      exact q
  · exact e0.hok.fresh (Nat.le_of_lt (x.above y c (PySem.mem_of_lookup h)))
  · unfold start
    show _ = N.length
    rw [List.length_append, List.length_map, List.length_replicate]
    omega
theorem fn_of {CX : CXT} {P : Program} {w : World} {K : PySem.W.Frag} {mg : Str → Option Value} {base : Heap} {k : Nat} {f : Addr} {name qual : Str} {params : Arguments} {body : List Stmt} {scope : Scope} {dV kV doc pm cdv ct oc : Value} {an od : Option Addr}
    {osl : Array (Option Value)} {N ps : List Str} {sp : Sp} (lk : K.lookup f = some ⟨oc, od, .func (PySem.W.fnOf name qual params body scope dV kV doc pm an cdv ct), osl⟩) (hcd : PySem.W.codeIn K cdv qual = true) (S : FnScope N ps scope)
    (len : ∀ vs H Q E, sp vs H Q E → vs.length = ps.length)
    (hbody : ∀ (A : Around) (outer : List Env) (s : Shared) (H : Hp) (vs : List V) (Q : VK) (E : XK), Room k (A.deeper (envOfC qual scope s.heap.objs.size f cdv)) → sp vs H Q E →
      ∃ t, PSs (cxOf CX P w K mg base N qual scope f cdv A outer s H E) body t ∧ t { nx := fun _ H' => Q .non H', rt := Q } (start N vs) H) :
    FnOk P w K mg base CX (k + 1) f (PySem.W.fnOf name qual params body scope dV kV doc pm an cdv ct) ps sp := by
  refine ⟨len, fun A outer s H args us vs Q E hr e0 hb r hsp => ?_⟩
  have hl := len _ _ _ _ hsp
  have KX : K.In s.heap := e0.mod.kin.keeps fun b o e => (e0.bs b o e).1
  have lim : s.heap.NoLimit := e0.mod.nolimit.keeps fun b o e => (e0.bs b o e).1
  have hkind : ∀ y ∈ ps.zip us, scope.names.lookup y.1 = some .local ∨ (scope.names.lookup y.1 = some .cell ∧ ((cellsFrom (s.heap.objs.size + 1) scope.names []).lookup y.1).isSome = true) := fun ⟨n, v⟩ hy => by
    rcases S.par n (List.of_mem_zip hy).1 with q | q
    · exact .inl q
    · exact .inr ⟨q, PySem.W.cellsFrom_some _ _ _ (.inl q)⟩
  refine codeAny_call_function hr.depth (KX _ _ lk) rfl S.co S.gen rfl (PySem.W.codeRec_of KX hcd) (hb _ _ _ _ ?_)
  refine wpAny_newFunctionEnv_cells S.kind hkind fun env he s1 x => ?_
  subst he
  refine ⟨lim.keeps x.toInCall.keep, codeAny_func ?_⟩
  obtain ⟨t, ht, hq⟩ := hbody A outer s H vs Q E (hr.deeper _) hsp
  have I : Inv (cxOf CX P w K mg base N qual scope f cdv A outer s H E) [] (start N vs) H s1 := inv_start S hr.hd e0 hl r x
  refine wpAny_mono (ht [] s1 (start N vs) H _ I hq) (fun fl s' hs => ?_) fun e s' hs => hs
  have fin : ∀ {σ' : St} {H' : Hp} {v : V} {u : Value}, Inv (cxOf CX P w K mg base N qual scope f cdv A outer s H E) [] σ' H' s' → RelV v u → Q v H' → CE outer P w H s Q u s' :=
    fun {σ' H' v u} J rv q => ⟨v, H', J.os, J.bare, J.base, J.hok, rv, q⟩
  cases fl with
  | ret u =>
    obtain ⟨v, σ', H', J, rv, q⟩ := hs
    exact fin J rv q
  | next =>
    obtain ⟨σ', H', J, q⟩ := hs
    exact fin (v := V.non) (u := Value.none) J rfl q
  | brk =>
    obtain ⟨_, _, _, q⟩ := hs
    exact False.elim q
  | cont =>
    obtain ⟨_, _, _, q⟩ := hs
    exact False.elim q
end L2
namespace L2
open PySem PySem.Spec PyProof.Rows
section
variable {X : Cx} {x : Str} {p pos : Pos} {e : Expr} {es : List Expr} {t : TA} {id T : String} {r : List V → Hp → VK → Prop}
def tCB (r : List V → Hp → VK → Prop) (t : TA) : TE := fun σ H Q => t σ H fun vs H1 => r vs H1 Q
theorem pe_callB (hc : CallR X (.builtin id) r) (hg : Gl X x) (hm : X.mg x = none) (hv : bootBuiltins x = some (.builtin id)) (ha : PA X (e :: es) t) (hn : x ≠ "__name__" := by decide) (hdb : (x == ("__debug__" : Str)) = false := by decide)
    (he : starEach (e :: es) X.env = (false, eval e X.env) :: starEach es X.env := by rfl) (hpl : (backTo pos (starEach es X.env)).any (·.1) = false := by rfl) : PE X (.Call (.Name x p) (e :: es) [] pos) (tCB r t) := by
  intro pins s σ H Q I h
  refine wpAny_Call_Name_kw (ld_blt I hg hm hv ?_ hn hdb)
  exact PyProof.Rows.callWith_builtin1 (thn (ha pos pins s σ H _ I h) fun us s1 ⟨vs, H1, I1, r1, q1⟩ => hc pins s1 σ H1 vs us Q I1 r1 q1) he hpl
theorem pe_callTy (hc : CallR X (.type T) r) (hg : Gl X x) (hm : X.mg x = none) (hv : bootBuiltins x = some (.type T)) (ha : PA X (e :: es) t) (hn : x ≠ "__name__" := by decide) (hdb : (x == ("__debug__" : Str)) = false := by decide)
    (he : starEach (e :: es) X.env = (false, eval e X.env) :: starEach es X.env := by rfl) (hpl : (backTo pos (starEach es X.env)).any (·.1) = false := by rfl) : PE X (.Call (.Name x p) (e :: es) [] pos) (tCB r t) := by
  intro pins s σ H Q I h
  refine wpAny_Call_Name_kw (ld_blt I hg hm hv ?_ hn hdb)
  exact PyProof.Rows.callWith_type1 (thn (ha pos pins s σ H _ I h) fun us s1 ⟨vs, H1, I1, r1, q1⟩ => hc pins s1 σ H1 vs us Q I1 r1 q1) he hpl
end
end L2
namespace HT
open PySem PyProof.Rows
section
open PySem.SeqAt
open PySem.AutoSeq1 (wpAny_loadPart')
open PySem.MeetsSeq PySem.MeetsSeq2 PySem.MeetsSeq3
end
section
variable {prog : Program} {w : World} {A : Around} {E : Value → Shared → Prop} {s : Shared}
theorem cat_tup {t b : Addr} {vs ws : List Value} {Q : Value → Shared → Prop} (ht : IsTup s.heap t vs.toArray) (hb : IsTup s.heap b ws.toArray) (hv : vs ≠ [])
    (h1 : ws = [] → Q (.ref t) s) (h2 : ws ≠ [] → Q (.ref s.heap.objs.size) { s with heap := s.heap.push { cls := .type "tuple", data := .seq (vs ++ ws).toArray } })
    (hsz : vs.length + ws.length ≤ sizeLine) : wpAny (model prog w) A (binaryOp .Add (.ref t) (.ref b)) Q E s := by
  obtain ⟨⟨cls, dd, data, sl⟩, ho, hc, n, hd⟩ := id ht
  obtain ⟨⟨cls2, dd2, data2, sl2⟩, ho2, hc2, n2, hd2⟩ := id hb
  simp only at hc hd hc2 hd2
  subst hc hd hc2 hd2
  have e : vs.toArray ++ ws.toArray = (vs ++ ws).toArray := by simp
  by_cases hw : ws = []
  · exact concat_meets ⟨_, ho, rfl⟩ ⟨_, ho2, rfl⟩ noFill_tuple_add seq_tuple_add PySem.F.slot_tuple_add PySem.F.entry_tuple_add (PySem.F.args_tuple_add_2 _ _)
      (tuple_addW1 t b vs.toArray ws.toArray n n2 dd dd2 sl sl2 (by simpa using hv) (by simp [hw])) ⟨ho, ho2, h1 hw⟩
  · refine concat_meets ⟨_, ho, rfl⟩ ⟨_, ho2, rfl⟩ noFill_tuple_add seq_tuple_add PySem.F.slot_tuple_add PySem.F.entry_tuple_add (PySem.F.args_tuple_add_2 _ _)
      (tuple_addW2 t b vs.toArray ws.toArray n n2 dd dd2 sl sl2 (by simpa using hv) (by simpa using hw) (by rw [List.size_toArray, List.size_toArray]; exact hsz)) ⟨ho, ho2, ?_⟩
    rw [e]
    exact h2 hw
def sIx (n d : Nat) : Option Int → Nat
  | none => d
  | some v => if v < 0 then (v + (n : Int)).toNat else min v.toNat n
theorem sIx_le (n d : Nat) (hd : d ≤ n) (o : Option Int) : sIx n d o ≤ n := by
  cases o with
  | none => exact hd
  | some v =>
    show (if v < 0 then (v + (n : Int)).toNat else min v.toNat n) ≤ n
    by_cases hv : v < 0
    · rw [if_pos hv]; omega
    · rw [if_neg hv]; exact Nat.min_le_right _ _
theorem clip_eq (v : Int) (n d : Nat) : (if v < 0 then max (v + (n : Int)) 0 else min v (n : Int)) = ((sIx n d (some v) : Nat) : Int) := by
  show (if v < 0 then max (v + (n : Int)) 0 else min v (n : Int)) = (((if v < 0 then (v + (n : Int)).toNat else min v.toNat n) : Nat) : Int)
  by_cases hv : v < 0
  · simp only [if_pos hv]; omega
  · simp only [if_neg hv]; omega
theorem adjust_gen (lo hi : Option Int) (n : Nat) : Builtin.Slice.sliceAdjust lo hi 1 (n : Int) = (((sIx n 0 lo : Nat) : Int), ((sIx n n hi : Nat) : Int)) := by
  have h1 : ¬ ((1 : Int) < 0) := by omega
  unfold Builtin.Slice.sliceAdjust
  simp only [h1, if_false]
  refine Prod.ext ?_ ?_
  · cases lo with
    | none => rfl
    | some v => exact clip_eq v n 0
  · cases hi with
    | none => rfl
    | some v => exact clip_eq v n n
theorem places_gen (i j : Nat) : Builtin.Slice.slicePlaces (i : Int) (j : Int) 1 = j - i := by
  unfold Builtin.Slice.slicePlaces
  have h1 : (1 : Int) > 0 := by omega
  simp only [h1, if_true, Int.ediv_one]
  split <;> omega
theorem slicePart_ {v : Value} {o : Option Int} {Q : Option Int → Shared → Prop} (p : IsPart v o) (h : Q o s) : wpAny (model prog w) A (Builtin.Slice.slicePartIndex v) Q E s := by
  cases p with
  | none => exact slicePart_none h
  | int i t => exact slicePart_int h
theorem sliceApplied_gen {sl : Addr} {vl vu : Value} {lo hi : Option Int} {n : Nat} {Q : Int × Int × Nat → Shared → Prop} (hs : s.heap.IsSliceOf sl vl vu .none) (pl : IsPart vl lo) (pu : IsPart vu hi)
    (h : Q (((sIx n 0 lo : Nat) : Int), 1, sIx n n hi - sIx n 0 lo) s) : wpAny (model prog w) A (Builtin.Slice.sliceApplied (.ref sl) (pure (n : Int))) Q E s := by
  obtain ⟨os, hos, hcs, hds⟩ := id hs
  unfold Builtin.Slice.sliceApplied Builtin.Slice.sliceFields
  refine wpAny_bind (wpAny_bind (wpAny_field hos hds (x := vl) rfl (wpAny_bind (wpAny_field hos hds (x := vu) rfl (wpAny_bind (wpAny_field hos hds (x := .none) rfl (wpAny_pure ?_)))))))
  refine wpAny_bind (slicePart_none ?_)
  show wpAny _ _ (if ((1 : Int) == 0) = true then _ else _) _ _ s
  rw [if_neg (by decide)]
  refine wpAny_bind (slicePart_ pl (wpAny_bind (slicePart_ pu (wpAny_bind (wpAny_pure ?_)))))
  show wpAny _ _ (match Builtin.Slice.sliceAdjust lo hi 1 (n : Int) with | (lo, hi) => pure (lo, (1 : Int), Builtin.Slice.slicePlaces lo hi 1)) _ _ s
  rw [adjust_gen lo hi n]
  show wpAny _ _ (pure (((sIx n 0 lo : Nat) : Int), (1 : Int), Builtin.Slice.slicePlaces ((sIx n 0 lo : Nat) : Int) ((sIx n n hi : Nat) : Int) 1)) _ _ s
  rw [places_gen]
  exact wpAny_pure h
theorem pick_gen (xs : Array Value) (i k : Nat) : ((List.range k).filterMap fun (m : Nat) => xs[((i : Int) + (m : Int) * 1).toNat]?).toArray = ((xs.toList.drop i).take k).toArray := by
  have e : (fun (m : Nat) => xs[((i : Int) + (m : Int) * 1).toNat]?) = fun m => xs[i + m]? := by
    funext m
    have : ((i : Int) + (m : Int) * 1).toNat = i + m := by omega
    rw [this]
  rw [e]
  have := pick_run xs i k
  rw [List.filterMap_map] at this
  have e2 : ((fun x => xs[x]?) ∘ fun x => i + x) = fun m => xs[i + m]? := rfl
  rw [e2] at this
  rw [this]
theorem getItem_tuple_cut {t sl : Addr} {items : Array Value} {vl vu : Value} {lo hi : Option Int} {Q : Value → Shared → Prop} (ht : IsTup s.heap t items) (hs : s.heap.IsSliceOf sl vl vu .none) (pl : IsPart vl lo) (pu : IsPart vu hi)
    (hw : ¬ (sIx items.size 0 lo = 0 ∧ sIx items.size items.size hi = items.size))
    (h : Q (.ref s.heap.objs.size) { s with heap := s.heap.push { cls := .type "tuple", data := .seq ((items.toList.drop (sIx items.size 0 lo)).take (sIx items.size items.size hi - sIx items.size 0 lo)).toArray } })
    (hsz : items.size ≤ sizeLine) : wpAny (model prog w) A (getItem (.ref t) (.ref sl)) Q E s := by
  have htake : sizeOk (.seq ((items.toList.drop (sIx items.size 0 lo)).take (sIx items.size items.size hi - sIx items.size 0 lo)).toArray) := by
    show ((items.toList.drop (sIx items.size 0 lo)).take (sIx items.size items.size hi - sIx items.size 0 lo)).toArray.size ≤ sizeLine
    rw [List.size_toArray, List.length_take, List.length_drop, Array.length_toList]
    omega
  have hj : sIx items.size items.size hi ≤ items.size := sIx_le _ _ (Nat.le_refl _) hi
  obtain ⟨os, hos, hcs, hds⟩ := id hs
  have hTs : s.TypeIs (.ref sl) "slice" := ⟨os, hos, hcs⟩
  unfold getItem
  try with_reducible refine wpAny_holding ?_
  first | refine wpAny_bind (wpAny_pure ?_) | skip
  refine wpAny_bind (wpAny_sequenceKey ht.typeIs (by decide) ?_)
  refine wpAny_bind (wpAny_callSpecial?_slot (name := Str.ofString "__getitem__") ht.typeIs PyProof.Rows.slot_tuple_getitem
    (wpAny_call_entry PyProof.Rows.slot_tuple_getitem ht.typeIs entry_tuple_getitem ?_ (args_tuple_getitem _ _)))
  show wpAny _ _ (Builtin.Tuple.tupleItemsOf (.ref t) >>= _) _ _ s
  refine wpAny_bind (tupleItemsOf_ ht ?_)
  refine wpAny_bind (wpAny_typeOf hTs ?_)
  rw [if_pos (by decide)]
  refine wpAny_bind (sliceApplied_gen hs pl pu ?_)
  have hno : ¬ ((((sIx items.size 0 lo : Nat) : Int) == 0 && (1 : Int) == 1 && (sIx items.size items.size hi - sIx items.size 0 lo) == items.size) = true) := by
    intro q
    rw [Bool.and_eq_true, Bool.and_eq_true] at q
    have q1 : ((sIx items.size 0 lo : Nat) : Int) = 0 := eq_of_beq q.1.1
    have q2 : sIx items.size items.size hi - sIx items.size 0 lo = items.size := eq_of_beq q.2
    exact hw ⟨by omega, by omega⟩
  show wpAny _ _ (if (((sIx items.size 0 lo : Nat) : Int) == 0 && (1 : Int) == 1 && (sIx items.size items.size hi - sIx items.size 0 lo) == items.size) = true then _ else _) _ _ s
  rw [if_neg hno, pick_gen]
  first
    | exact wpAny_bind (m := Builtin.Tuple.tupleExact _) (wpAny_newObj_type (wpAny_pure ⟨_, rfl, wpAny_pure h⟩) htake)
    | exact wpAny_bind (m := Builtin.Tuple.tupleExact _) (wpAny_newObj_type (wpAny_bind (wpAny_pure (wpAny_pure ⟨_, rfl, wpAny_pure h⟩))) htake)
    | exact wpAny_bind (wpAny_bind (m := Builtin.Tuple.tupleExact _) (wpAny_newObj_type (wpAny_pure (wpAny_pure ⟨_, rfl, wpAny_pure h⟩)) htake))
    | exact wpAny_bind (wpAny_bind (m := Builtin.Tuple.tupleExact _) (wpAny_newObj_type (wpAny_pure ⟨_, rfl, wpAny_pure h⟩) htake))
end
end HT
namespace L2
open PySem PySem.Spec PyProof.Rows
abbrev TO := St → Hp → (Option Int → Hp → Prop) → Prop
def PO (X : Cx) (e : Option Expr) (t : TO) : Prop :=
  ∀ (pins : List (Addr × Obj)) (s : Shared) (σ : St) (H : Hp) (Q : Option Int → Hp → Prop), Inv X pins σ H s → t σ H Q →
    wpAny (model X.prog X.w) X.A (evalPart e X.env) (fun u s' => ∃ o H', Inv X pins σ H' s' ∧ IsPart u o ∧ Q o H') X.xe s
def tNoPart : TO := fun _ H Q => Q none H
def tPart (t : TE) : TO := fun σ H Q => t σ H fun x H1 => ∃ i, x = .int i ∧ Q (some i) H1
section
variable {X : Cx} {e : Expr} {te : TE} {lo hi : Option Expr} {tl th : TO} {pos p2 : Pos}
theorem po_none : PO X none tNoPart := by
  intro pins s σ H Q I h
  rw [evalPart_none]
  exact wpAny_pure ⟨none, H, I, .none, h⟩
theorem po_some (h : PE X e te) : PO X (some e) (tPart te) := by
  intro pins s σ H Q I hw
  rw [evalPart_some]
  refine thn (h pins s σ H _ I hw) fun u s1 ⟨x, H1, I1, r1, q1⟩ => ?_
  obtain ⟨i, rfl, q⟩ := q1
  obtain ⟨t, rfl⟩ := r1
  exact ⟨some i, H1, I1, .int i t, q⟩
def SlR (X : Cx) (r : V → Option Int → Option Int → Hp → VK → Prop) : Prop :=
  ∀ (pins : List (Addr × Obj)) (s : Shared) (σ : St) (H : Hp) (x : V) (v vl vu : Value) (lo hi : Option Int) (sl : Addr) (Q : VK), Inv X pins σ H s → RelV x v → s.heap.IsSliceOf sl vl vu .none → IsPart vl lo → IsPart vu hi → r x lo hi H Q →
    ∃ T id, typeLookup (.type T) "__getitem__" = pure (some (.builtin id)) ∧ s.TypeIs v T ∧ wpAny (model X.prog X.w) X.A (getItem v (.ref sl)) (EP X pins σ Q) X.xe s
theorem SlR.or {r r' : V → Option Int → Option Int → Hp → VK → Prop} (h : SlR X r) (h' : SlR X r') : SlR X (fun x lo hi H Q => r x lo hi H Q ∨ r' x lo hi H Q) := by
  intro pins s σ H x v vl vu lo hi sl Q I rx hs pl pu q
  rcases q with q | q
  · exact h pins s σ H x v vl vu lo hi sl Q I rx hs pl pu q
  · exact h' pins s σ H x v vl vu lo hi sl Q I rx hs pl pu q
def tSl (r : V → Option Int → Option Int → Hp → VK → Prop) (te : TE) (tl th : TO) : TE := fun σ H Q => te σ H fun x H1 => tl σ H1 fun l H2 => th σ H2 fun u H3 => r x l u H3 Q
theorem pe_slice {r : V → Option Int → Option Int → Hp → VK → Prop} (hr : SlR X r) (he : PE X e te) (hl : PO X lo tl) (hu : PO X hi th) : PE X (.Subscript e (.Slice lo hi none p2) pos) (tSl r te tl th) := by
  intro pins s σ H Q I h
  refine Subscript_ (thn (he pins s σ H _ I h) fun v s1 ⟨x, H1, I1, r1, q1⟩ => ?_)
  refine wpAny_Slice (thn (hl pins s1 σ H1 _ I1 q1) fun vl s2 ⟨l, H2, I2, pl, q2⟩ => thn (hu pins s2 σ H2 _ I2 q2) fun vu s3 ⟨u, H3, I3, pu, q3⟩ => ?_)
  rw [evalPart_none]
  refine wpAny_pure ?_
  have I4 : Inv X pins σ H3 { s3 with heap := s3.heap.push { cls := .type "slice", data := .fields #[vl, vu, .none] } } := I3.kept (t' := s3.toks) fun b ob q => Heap.get?_push_of_some _ q
  obtain ⟨T, id, hT, ht, hg⟩ := hr pins { s3 with heap := s3.heap.push { cls := .type "slice", data := .fields #[vl, vu, .none] } } σ H3 x v vl vu l u s3.heap.objs.size Q I4 r1 (Heap.IsSliceOf.new ..) pl pu q3
  show wpAny (model X.prog X.w) X.A (subscriptTail e (.Slice lo hi none p2) v (.ref s3.heap.objs.size)) (EP X pins σ Q) X.xe { s3 with heap := s3.heap.push { cls := .type "slice", data := .fields #[vl, vu, .none] } }
  exact tail_any (ops := [.ref s3.heap.objs.size, v]) ht hT hg (by with_unfolding_all rfl)
def cutV (xs : List V) (lo hi : Option Int) : List V := (xs.drop (HT.sIx xs.length 0 lo)).take (HT.sIx xs.length xs.length hi - HT.sIx xs.length 0 lo)
theorem cutV_length (xs : List V) (lo hi : Option Int) : (cutV xs lo hi).length ≤ xs.length := by
  unfold cutV
  rw [List.length_take, List.length_drop]
  omega
def rSlT (K : PySem.W.Frag) : V → Option Int → Option Int → Hp → VK → Prop := fun x lo hi H Q => ∃ a xs, x = .ref a ∧ SqT K H a xs ∧
  ¬ (HT.sIx xs.length 0 lo = 0 ∧ HT.sIx xs.length xs.length hi = xs.length) ∧ ∀ p, H p = none → Q (.ref p) (upd H p (.tup (cutV xs lo hi)))
theorem sl_tup : SlR X (rSlT X.K) := by
  intro pins s σ H x v vl vu lo hi sl Q I rx hs pl pu h
  obtain ⟨a, xs, rfl, hx, hw, q⟩ := h
  cases rx
  obtain ⟨its, r, ht, hz⟩ := I.tuple hx
  have hlen : its.toArray.size = xs.length := by rw [List.size_toArray]; exact r.length.symm
  refine ⟨"tuple", _, PyProof.Rows.slot_tuple_getitem.lookup, ht.typeIs, ?_⟩
  refine HT.getItem_tuple_cut ht hs pl pu (by rw [hlen]; exact hw) ?_ (by rw [hlen]; exact hz)
  rw [hlen]
  refine ⟨.ref s.heap.objs.size, _, I.laid (t' := s.toks) (o := .tup (cutV xs lo hi)) (fun b ob q => Heap.get?_push_of_some _ q) (Nat.le_refl _) ?_, rfl, q _ (I.hok.fresh (Nat.le_refl _))⟩
  exact ⟨Nat.le_trans (cutV_length xs lo hi) hz, _, (r.drop (HT.sIx xs.length 0 lo)).take (HT.sIx xs.length xs.length hi - HT.sIx xs.length 0 lo), IsTup.new _ _⟩
def rCatT (K : PySem.W.Frag) : R2 := fun x y H Q => ∃ a b xs ys, x = .ref a ∧ y = .ref b ∧ SqT K H a xs ∧ SqT K H b ys ∧ xs ≠ [] ∧ xs.length + ys.length ≤ sizeLine ∧
  (ys = [] → Q (.ref a) H) ∧ (ys ≠ [] → ∀ p, H p = none → Q (.ref p) (upd H p (.tup (xs ++ ys))))
theorem Vals.nil_iff {xs : List V} {us : List Value} (r : Vals xs us) : us = [] ↔ xs = [] := by
  cases r with
  | nil => simp
  | cons _ _ => simp
theorem op_catT : OpR X (binaryOp .Add) (rCatT X.K) := by
  intro pins s σ H x y v u Q I rx ry h
  obtain ⟨a, b, xs, ys, rfl, rfl, ha, hb, hx, hz, q1, q2⟩ := h
  cases rx
  cases ry
  obtain ⟨its, r1, p1, _⟩ := I.tuple ha
  obtain ⟨its2, r2, p2, _⟩ := I.tuple hb
  refine HT.cat_tup p1 p2 (fun z => hx (r1.nil_iff.mp z)) (fun z => ⟨.ref a, H, I, rfl, q1 (r2.nil_iff.mp z)⟩) (fun z => ?_) (by rw [← r1.length, ← r2.length]; exact hz)
  refine ⟨.ref s.heap.objs.size, _, I.laid (t' := s.toks) (o := .tup (xs ++ ys)) (fun b ob q => Heap.get?_push_of_some _ q) (Nat.le_refl _) ?_, rfl, q2 (fun w => z (r2.nil_iff.mpr w)) _ (I.hok.fresh (Nat.le_refl _))⟩
  exact ⟨by rw [List.length_append]; exact hz, _, r1.append r2, IsTup.new _ _⟩
end
end L2
namespace L2
open PySem PySem.Spec PyProof.Rows
def ixN (n : Nat) (i : Int) : Option Nat := if 0 ≤ i then (if i < n then some i.toNat else none) else if -(n : Int) ≤ i then some (i + n).toNat else none
def atI {α : Type} (xs : List α) (i : Int) : Option α := (ixN xs.length i).bind fun j => xs[j]?
theorem ixN_seq {n : Nat} {i : Int} {j : Nat} (h : ixN n i = some j) : seqIndex? i n = some j ∧ j < n ∧ -(n : Int) ≤ i ∧ i < n := by
  unfold ixN at h
  by_cases h0 : 0 ≤ i
  · rw [if_pos h0] at h
    by_cases h1 : i < n
    · rw [if_pos h1] at h
      have e : i.toNat = j := Option.some.inj h
      exact ⟨by rw [seqIndex_of h0 h1, e], by omega, by omega, h1⟩
    · rw [if_neg h1] at h; cases h
  · rw [if_neg h0] at h
    by_cases h1 : -(n : Int) ≤ i
    · rw [if_pos h1] at h
      have e : (i + n).toNat = j := Option.some.inj h
      exact ⟨by rw [seqIndex_neg (by omega) h1, e], by omega, h1, by omega⟩
    · rw [if_neg h1] at h; cases h
theorem atI_get {α : Type} {xs : List α} {i : Int} {v : α} (h : atI xs i = some v) : ∃ j, seqIndex? i xs.length = some j ∧ xs[j]? = some v ∧ j < xs.length ∧ -(xs.length : Int) ≤ i ∧ i < xs.length := by
  unfold atI at h
  cases e : ixN xs.length i with
  | none => rw [e] at h; cases h
  | some j =>
    rw [e] at h
    obtain ⟨h1, h2, h3, h4⟩ := ixN_seq e
    exact ⟨j, h1, h, h2, h3, h4⟩
def PlainIx (b : Expr) : Prop := ∀ o i, subscripted b false o i = operate [o, i] (getItem o i)
def IxR (X : Cx) (r : R2) : Prop :=
  ∀ (value slice : Expr) (pins : List (Addr × Obj)) (s : Shared) (σ : St) (H : Hp) (x y : V) (v u : Value) (Q : VK), Inv X pins σ H s → RelV x v → RelV y u → r x y H Q →
    subscripted slice false v u = operate [v, u] (getItem v u) → wpAny (model X.prog X.w) X.A (subscriptTail value slice v u) (EP X pins σ Q) X.xe s
def MtR (X : Cx) (id : String) (r : V → List V → Hp → VK → Prop) : Prop :=
  ∀ (pins : List (Addr × Obj)) (s : Shared) (σ : St) (H : Hp) (x : V) (xs : List V) (v : Value) (us : List Value) (Q : VK), Inv X pins σ H s → RelV x v → Vals xs us → r x xs H Q →
    wpAny (model X.prog X.w) X.A (call (.builtin id) (v :: us)) (EP X pins σ Q) X.xe s
section
variable {X : Cx} {a b : Expr} {ta tb : TE} {pos : Pos}
theorem IxR.or {r r' : R2} (h : IxR X r) (h' : IxR X r') : IxR X (fun x y H Q => r x y H Q ∨ r' x y H Q) := by
  intro value slice pins s σ H x y v u Q I rx ry q hs
  rcases q with q | q
  · exact h value slice pins s σ H x y v u Q I rx ry q hs
  · exact h' value slice pins s σ H x y v u Q I rx ry q hs
theorem MtR.or {id : String} {r r' : V → List V → Hp → VK → Prop} (h : MtR X id r) (h' : MtR X id r') : MtR X id (fun x xs H Q => r x xs H Q ∨ r' x xs H Q) := by
  intro pins s σ H x xs v us Q I rx rs q
  rcases q with q | q
  · exact h pins s σ H x xs v us Q I rx rs q
  · exact h' pins s σ H x xs v us Q I rx rs q
theorem pe_ix {r : R2} (hr : IxR X r) (ha : PE X a ta) (hb : PE X b tb) (hs : PlainIx b) : PE X (.Subscript a b pos) (tOp r ta tb) := by
  intro pins s σ H Q I h
  exact Subscript_ (binT ha hb I h fun v u s2 x y H2 I2 rx ry q => hr a b pins s2 σ H2 x y v u Q I2 rx ry q (hs _ _))
def rIxL (K : PySem.W.Frag) : R2 := fun x y H Q => ∃ p xs i v, x = .ref p ∧ y = .int i ∧ SqL K H p xs ∧ atI xs i = some v ∧ Q v H
def rIxT (K : PySem.W.Frag) : R2 := fun x y H Q => ∃ p xs i v, x = .ref p ∧ y = .int i ∧ SqT K H p xs ∧ atI xs i = some v ∧ Q v H
def rIxS : R2 := fun x y H Q => ∃ z i c, x = .str z ∧ y = .int i ∧ z.length ≤ sizeLine ∧ atI z.cps.toList i = some c ∧ Q (.str ⟨#[c]⟩) H
theorem ix_list : IxR X (rIxL X.K) := by
  intro value slice pins s σ H x y v u Q I rx ry h hs
  obtain ⟨p, xs, i, z, rfl, rfl, hq, he, q⟩ := h
  cases rx
  obtain ⟨t, rfl⟩ := ry
  obtain ⟨its, r, pl, hz⟩ := I.list hq
  obtain ⟨j, h1, h2, h3, h4, h5⟩ := atI_get he
  obtain ⟨w, ew, rw'⟩ := r.get h2
  have hl := r.length
  have hn := line63
  have fin : EP X pins σ Q w s := ⟨z, H, I, rw', q⟩
  by_cases h0 : 0 ≤ i
  · have hj : i.toNat = j := by
      rw [seqIndex_of h0 h5] at h1
      exact Option.some.inj h1
    exact item_listR pl.isList h0 (by omega) (by rw [hj]; simpa using ew) fin hs
  · have hj : (i + (its.toArray.size : Int)).toNat = j := by
      rw [seqIndex_neg (by omega) h4] at h1
      rw [List.size_toArray, ← hl]
      exact Option.some.inj h1
    exact subscriptTail_builtinR (x := w) pl.isList.typeIs slot_list_getitem.lookup
      (wpAny_getItem_list_neg (Q := fun r s' => r = w ∧ EP X pins σ Q r s') pl.isList (by omega) (by rw [List.size_toArray] <;> omega) (by omega) (by rw [hj]; simpa using ew) ⟨rfl, fin⟩) hs
theorem ix_tup : IxR X (rIxT X.K) := by
  intro value slice pins s σ H x y v u Q I rx ry h hs
  obtain ⟨p, xs, i, z, rfl, rfl, hq, he, q⟩ := h
  cases rx
  obtain ⟨t, rfl⟩ := ry
  obtain ⟨its, r, pl, hz⟩ := I.tuple hq
  obtain ⟨j, h1, h2, h3, h4, h5⟩ := atI_get he
  obtain ⟨w, ew, rw'⟩ := r.get h2
  have hl := r.length
  have hn := line63
  have fin : EP X pins σ Q w s := ⟨z, H, I, rw', q⟩
  exact subscriptTail_builtinR (x := w) pl.typeIs slot_tuple_getitem.lookup
    (getItem_tuple (j := j) (Q := fun r s' => r = w ∧ EP X pins σ Q r s') pl (by omega) (by omega) (by rw [List.size_toArray, ← hl]; exact h1) (by simpa using ew) ⟨rfl, fin⟩) hs
theorem ix_str : IxR X rIxS := by
  intro value slice pins s σ H x y v u Q I rx ry h hs
  obtain ⟨z, i, c, rfl, rfl, hz, he, q⟩ := h
  obtain ⟨t, rfl⟩ := rx
  obtain ⟨t', rfl⟩ := ry
  obtain ⟨j, h1, h2, h3, h4, h5⟩ := atI_get he
  have hl : z.cps.toList.length = z.length := by simp [Str.length]
  rw [hl] at h1 h4 h5
  have hn := line63
  exact tail_any (typeIs_str s z t) slot_str_getitem.lookup (getItem_str (c := c) (by
    have e1 : decide (i < -(2 ^ 63 : Int)) = false := decide_eq_false (by omega)
    have e2 : decide (i ≥ 2 ^ 63) = false := decide_eq_false (by omega)
    rw [e1, e2, Bool.or_false]) (by rw [h1]; simpa using h2) ⟨.str ⟨#[c]⟩, H, I.tok _, ⟨_, rfl⟩, q⟩) hs
def rIx (K : PySem.W.Frag) : R2 := fun x y H Q => rIxL K x y H Q ∨ rIxT K x y H Q ∨ rIxS x y H Q
theorem ix_seq : IxR X (rIx X.K) := ix_list.or (ix_tup.or ix_str)
theorem Inv.lst {pins : List (Addr × Obj)} {σ : St} {H : Hp} {s : Shared} {p : Addr} {xs : List V} (I : Inv X pins σ H s) (h : H p = some (.lst xs)) :
    ∃ (its : List Value) (n : Nat), Vals xs its ∧ s.heap.get? p = some { cls := .type "list", data := .seq its.toArray n } ∧ xs.length ≤ sizeLine := by
  obtain ⟨z, its, n, r, e⟩ := I.hok p _ h
  exact ⟨its, n, r, e, z⟩
theorem slice_bounds (lo hi : Option Int) (n : Nat) : (sliceBounds lo hi none n).1 = ((HT.sIx n 0 lo : Nat) : Int) ∧ (sliceBounds lo hi none n).2.1 = ((HT.sIx n n hi : Nat) : Int) ∧ (sliceBounds lo hi none n).2.2 = 1 := by
  refine ⟨?_, ?_, rfl⟩
  · cases lo with
    | none => simp [sliceBounds, HT.sIx]
    | some i =>
      simp only [sliceBounds, HT.sIx, Option.getD_none, show (1 : Int) > 0 by decide, if_true]
      by_cases h : i < 0
      · simp only [h, if_true] <;> omega
      · simp only [h, if_false] <;> omega
  · cases hi with
    | none => simp [sliceBounds, HT.sIx]
    | some i =>
      simp only [sliceBounds, HT.sIx, Option.getD_none, show (1 : Int) > 0 by decide, if_true]
      by_cases h : i < 0
      · simp only [h, if_true] <;> omega
      · simp only [h, if_false] <;> omega
theorem slicePick_cut (its : List Value) (lo hi : Option Int) : slicePick its.toArray lo hi none = ((its.drop (HT.sIx its.length 0 lo)).take (HT.sIx its.length its.length hi - HT.sIx its.length 0 lo)).toArray := by
  obtain ⟨h1, h2, h3⟩ := slice_bounds lo hi its.toArray.size
  unfold slicePick
  rw [h1, h2, h3]
  simp only [sliceRange_one, pick_run, List.size_toArray] <;> rfl
def rSlL (K : PySem.W.Frag) : V → Option Int → Option Int → Hp → VK → Prop := fun x lo hi H Q => ∃ a xs, x = .ref a ∧ SqL K H a xs ∧ ∀ p, H p = none → Q (.ref p) (upd H p (.lst (cutV xs lo hi)))
theorem sl_list : SlR X (rSlL X.K) := by
  intro pins s σ H x v vl vu lo hi sl Q I rx hs pl pu h
  obtain ⟨a, xs, rfl, hx, q⟩ := h
  cases rx
  obtain ⟨its, r, ht, hz⟩ := I.list hx
  have hlen := r.length
  refine ⟨"list", _, slot_list_getitem.lookup, ht.isList.typeIs, ?_⟩
  refine wpAny_getItem_list_slice ht.isList hs pl pu .none (by simp) ?_ (by rw [List.size_toArray] <;> omega)
  rw [slicePick_cut, ← hlen]
  refine ⟨.ref s.heap.objs.size, _, I.laid (t' := s.toks) (o := .lst (cutV xs lo hi)) (fun b ob q => Heap.get?_push_of_some _ q) (Nat.le_refl _) ?_, rfl, q _ (I.hok.fresh (Nat.le_refl _))⟩
  exact ⟨Nat.le_trans (cutV_length xs lo hi) hz, _, 0, (r.drop (HT.sIx xs.length 0 lo)).take (HT.sIx xs.length xs.length hi - HT.sIx xs.length 0 lo), Heap.get?_push_size _ rfl⟩
def flatV : V → Bool
  | .non => true
  | .bl _ => true
  | .int _ => true
  | .str _ => true
  | _ => false
def eqV : V → V → Bool
  | .non, .non => true
  | .bl a, .bl b => a == b
  | .bl a, .int b => (if a then 1 else 0) == b
  | .int a, .bl b => a == (if b then 1 else 0)
  | .int a, .int b => a == b
  | .str a, .str b => a == b
  | _, _ => false
theorem eqAt_V {A : Around} {s : Shared} {y x : V} {u v : Value} (ry : RelV y u) (rx : RelV x v) (fy : flatV y = true) (fx : flatV x = true) : SeqAt.EqAt A s u v (eqV y x) := by
  cases y with
  | non =>
    cases ry
    cases x with
    | non => cases rx; exact SeqAt.EqAt.same _
    | bl b => cases rx; exact SeqAt.EqAt.none_bool b
    | int b => obtain ⟨t, rfl⟩ := rx; exact SeqAt.EqAt.none_int b t
    | str b => obtain ⟨t, rfl⟩ := rx; exact SeqAt.EqAt.none_str b t
    | _ => exact absurd (show false = true from fx) Bool.false_ne_true
  | bl a =>
    cases ry
    cases x with
    | non => cases rx; exact SeqAt.EqAt.bool_none a
    | bl b => cases rx; exact SeqAt.EqAt.bool_bool a b
    | int b => obtain ⟨t, rfl⟩ := rx; exact SeqAt.EqAt.bool_int a b t
    | str b => obtain ⟨t, rfl⟩ := rx; exact SeqAt.EqAt.bool_str a b t
    | _ => exact absurd (show false = true from fx) Bool.false_ne_true
  | int a =>
    obtain ⟨t', rfl⟩ := ry
    cases x with
    | non => cases rx; exact SeqAt.EqAt.int_none a t'
    | bl b => cases rx; exact SeqAt.EqAt.int_bool a t' b
    | int b => obtain ⟨t, rfl⟩ := rx; exact SeqAt.EqAt.int_int a t' b t
    | str b => obtain ⟨t, rfl⟩ := rx; exact SeqAt.EqAt.int_str a t' b t
    | _ => exact absurd (show false = true from fx) Bool.false_ne_true
  | str a =>
    obtain ⟨t', rfl⟩ := ry
    cases x with
    | non => cases rx; exact SeqAt.EqAt.str_none a t'
    | bl b => cases rx; exact SeqAt.EqAt.str_bool a t' b
    | int b => obtain ⟨t, rfl⟩ := rx; exact SeqAt.EqAt.str_int a t' b t
    | str b => obtain ⟨t, rfl⟩ := rx; exact SeqAt.EqAt.str_str a t' b t
    | _ => exact absurd (show false = true from fx) Bool.false_ne_true
  | _ => exact absurd (show false = true from fy) Bool.false_ne_true
def eqU (x : V) (u : Value) : Bool := match u with
  | .none => eqV .non x
  | .bool b => eqV (.bl b) x
  | .int i _ => eqV (.int i) x
  | .str z _ => eqV (.str z) x
  | _ => false
theorem eqU_of {x y : V} {u : Value} (r : RelV y u) (f : flatV y = true) : eqU x u = eqV y x := by
  cases y with
  | non => cases r; rfl
  | bl b => cases r; rfl
  | int i => obtain ⟨t, rfl⟩ := r; rfl
  | str z => obtain ⟨t, rfl⟩ := r; rfl
  | _ => exact absurd (show false = true from f) Bool.false_ne_true
theorem any_eqU {x : V} : ∀ {xs : List V} {us : List Value}, Vals xs us → xs.all flatV = true → us.any (eqU x) = xs.any fun y => eqV y x
  | _, _, .nil, _ => rfl
  | y :: xs, u :: us, .cons r t, f => by
    rw [List.all_cons, Bool.and_eq_true] at f
    rw [List.any_cons, List.any_cons, eqU_of r f.1, any_eqU t f.2]
theorem mem_eqAt {A : Around} {s : Shared} {x : V} {v : Value} (rx : RelV x v) (fx : flatV x = true) : ∀ {xs : List V} {us : List Value}, Vals xs us → xs.all flatV = true → ∀ u ∈ us, SeqAt.EqAt A s u v (eqU x u)
  | _, _, .nil, _ => fun u hu => by cases hu
  | y :: xs, u :: us, .cons r t, f => fun u' hu => by
    rw [List.all_cons, Bool.and_eq_true] at f
    rcases List.mem_cons.mp hu with rfl | hu
    · rw [eqU_of r f.1]; exact eqAt_V r rx f.1 fx
    · exact mem_eqAt rx fx t f.2 u' hu
def inV (x : V) (xs : List V) : Bool := xs.any fun y => eqV y x
def rIn (K : PySem.W.Frag) (neg : Bool) : R2 := fun x y H Q => ∃ p xs, y = .ref p ∧ (SqL K H p xs ∨ SqT K H p xs) ∧ flatV x = true ∧ xs.all flatV = true ∧ Q (.bl (if neg then !inV x xs else inV x xs)) H
theorem op_in_seq : OpR X (compareOp .In) (rIn X.K false) := by
  intro pins s σ H x y v u Q I rx ry h
  obtain ⟨p, xs, rfl, hq, fx, fs, q⟩ := h
  cases ry
  rcases hq with hq | hq
  · obtain ⟨its, r, pl, hz⟩ := I.list hq
    refine SeqAt.in_listAt (eqU x) pl.isList (fun w hw => mem_eqAt rx fx r fs w (by simpa using hw)) ⟨.bl _, H, I, rfl, ?_⟩
    rw [show its.toArray.any (eqU x) = its.any (eqU x) by simp, any_eqU r fs]
    exact q
  · obtain ⟨its, r, pl, hz⟩ := I.tuple hq
    refine SeqAt.in_tupleAt (eqU x) pl (fun w hw => mem_eqAt rx fx r fs w (by simpa using hw)) ⟨.bl _, H, I, rfl, ?_⟩
    rw [show its.toArray.any (eqU x) = its.any (eqU x) by simp, any_eqU r fs]
    exact q
theorem CallR.or {f : Value} {r r' : List V → Hp → VK → Prop} (h : CallR X f r) (h' : CallR X f r') : CallR X f (fun xs H Q => r xs H Q ∨ r' xs H Q) := by
  intro pins s σ H xs us Q I rs q
  rcases q with q | q
  · exact h pins s σ H xs us Q I rs q
  · exact h' pins s σ H xs us Q I rs q
theorem call_list_of : CallR X (.type "list") (fun xs H Q => ∃ p ys, xs = [.ref p] ∧ (SqL X.K H p ys ∨ SqT X.K H p ys) ∧ ∀ l, H l = none → Q (.ref l) (upd H l (.lst ys))) := by
  intro pins s σ H xs us Q I r h
  obtain ⟨p, ys, rfl, hq, q⟩ := h
  obtain ⟨u, rfl, rx⟩ := vals1 r
  cases rx
  have fin : ∀ (its : List Value), Vals ys its → ys.length ≤ sizeLine → ∀ (h' : Heap) (c' : Nat), (∀ b o', s.heap.get? b = some o' → h'.get? b = some o') →
      h'.get? s.heap.objs.size = some { cls := .type "list", dict := none, data := .seq its.toArray c', slots := #[] } → EP X pins σ Q (.ref s.heap.objs.size) { s with heap := h' } := fun its r' hz h' c' kp e =>
    ⟨.ref s.heap.objs.size, _, I.laid (t' := s.toks) kp (Nat.le_refl _) (show ObjOk X.prog X.w _ h' _ (.lst ys) from ⟨hz, its, c', r', e⟩), rfl, q _ (I.hok.fresh (Nat.le_refl _))⟩
  rcases hq with hq | hq
  · obtain ⟨its, r', pl, hz⟩ := I.list hq
    have hlen := r'.length
    obtain ⟨o, ho, hc, n, hd⟩ := pl.isList
    exact call_list_seq p (.inl rfl) ho hc hd (fun h' c' kp e => fin its r' hz h' c' kp e) (by simp only [List.size_toArray] <;> omega)
  · obtain ⟨its, r', pl, hz⟩ := I.tuple hq
    have hlen := r'.length
    obtain ⟨o, ho, hc, n, hd⟩ := pl
    exact call_list_seq p (.inr rfl) ho hc hd (fun h' c' kp e => fin its r' hz h' c' kp e) (by simp only [List.size_toArray] <;> omega)
theorem call_tuple_of : CallR X (.type "tuple") (fun xs H Q => ∃ p ys, xs = [.ref p] ∧ ((SqL X.K H p ys ∧ ∀ l, H l = none → Q (.ref l) (upd H l (.tup ys))) ∨ (SqT X.K H p ys ∧ Q (.ref p) H))) := by
  intro pins s σ H xs us Q I r h
  obtain ⟨p, ys, rfl, h⟩ := h
  obtain ⟨u, rfl, rx⟩ := vals1 r
  cases rx
  rcases h with ⟨hq, q⟩ | ⟨hq, q⟩
  · obtain ⟨its, r', pl, hz⟩ := I.list hq
    have hlen := r'.length
    refine call_tuple_list pl.isList (fun h' kp => ?_) (by simp only [List.size_toArray] <;> omega)
    have I1 : Inv X pins σ H { s with heap := h' } := I.kept (t' := s.toks) kp
    have I2 : Inv X pins σ (upd H h'.objs.size (.tup ys)) { s with heap := h'.push { cls := .type "tuple", data := .seq its.toArray } } :=
      I1.laid (t' := s.toks) (fun b o e => Heap.get?_push_of_some _ e) (Nat.le_refl _) (show ObjOk X.prog X.w _ _ _ (.tup ys) from ⟨hz, its, r', IsTup.new _ _⟩)
    exact ⟨.ref h'.objs.size, _, I2, rfl, q _ (I1.hok.fresh (Nat.le_refl _))⟩
  · obtain ⟨its, r', pl, hz⟩ := I.tuple hq
    exact call_tuple_same pl ⟨.ref p, H, I, rfl, q⟩
def tyV (K : PySem.W.Frag) (T : String) (x : V) (H : Hp) : Prop := match x with
  | .str _ => T = "str"
  | .int _ => T = "int"
  | .ref p => (T = "list" ∧ ∃ xs, SqL K H p xs) ∨ (T = "tuple" ∧ ∃ o, K.lookup p = some o ∧ o.cls = .type "tuple" ∧ o.dict = none) ∨
      (T = "dict" ∧ ((∃ kvs, H p = some (.dK kvs)) ∨ ∃ kvs, H p = some (.dT kvs))) ∨ (T = "set" ∧ ∃ S n, H p = some (.set S n))
  | _ => False
theorem tyV_is {pins : List (Addr × Obj)} {σ : St} {H : Hp} {s : Shared} {T : String} {x : V} {v : Value} (I : Inv X pins σ H s) (r : RelV x v) (ty : tyV X.K T x H) :
    s.TypeIs v T ∧ ∀ a, v = .ref a → ∃ ob, s.heap.get? a = some ob ∧ ob.dict = none := by
  cases x with
  | str z =>
    obtain ⟨t, rfl⟩ := r
    cases (show T = "str" from ty)
    exact ⟨typeIs_str s z t, fun _ e => nomatch e⟩
  | int i =>
    obtain ⟨t, rfl⟩ := r
    cases (show T = "int" from ty)
    exact ⟨typeIs_int s i t, fun _ e => nomatch e⟩
  | ref p =>
    cases r
    rcases ty with ⟨rfl, xs, hq⟩ | ⟨rfl, o, hk, hc, hd⟩ | ⟨rfl, hk⟩ | ⟨rfl, S, n, hk⟩
    · obtain ⟨its, _, pl, _⟩ := I.list hq
      refine ⟨pl.isList.typeIs, fun a e => ?_⟩
      cases e
      obtain ⟨o, n, e, c, hd, _⟩ := pl
      exact ⟨o, e, hd⟩
    · refine ⟨⟨o, I.kIn p o hk, hc⟩, fun a e => ?_⟩
      cases e
      exact ⟨o, I.kIn _ o hk, hd⟩
    · have z : ∃ o, s.heap.get? p = some o ∧ o.ExactDict := by
        rcases hk with ⟨kvs, hk⟩ | ⟨kvs, hk⟩
        · obtain ⟨_, _, _, _, o, _, _, e, ex, _⟩ := I.hok p _ hk
          exact ⟨o, e, ex⟩
        · obtain ⟨_, _, _, _, o, _, _, e, ex, _⟩ := I.hok p _ hk
          exact ⟨o, e, ex⟩
      obtain ⟨o, e, ex⟩ := z
      refine ⟨⟨o, e, ex.1⟩, fun a e2 => ?_⟩
      cases e2
      exact ⟨o, e, ex.2.1⟩
    · obtain ⟨o, _, _, _, e, ex, _⟩ := I.hok p _ hk
      refine ⟨⟨o, e, ex.1⟩, fun a e2 => ?_⟩
      cases e2
      exact ⟨o, e, ex.2.1⟩
  | _ => exact False.elim ty
def tBM (K : PySem.W.Frag) (T : String) (r : V → List V → Hp → VK → Prop) (to : TE) (t : TA) : TE := fun σ H Q => to σ H fun x H1 => tyV K T x H1 ∧ t σ H1 fun xs H2 => r x xs H2 Q
variable {o e : Expr} {es : List Expr} {to : TE} {t : TA} {name : Str} {apos cpos : Pos} {T id : String} {r : V → List V → Hp → VK → Prop}
theorem pe_bm (pa : PlainAttrs T) (slot : Slot T name id) (hty : typeOf (.builtin id) = pure (.type "method_descriptor")) (hm : MtR X id r) (ho : PE X o to) (ha : PA X (e :: es) t)
    (hbase : attributeBase o name X.env (eval o X.env) = eval o X.env := by rfl)
    (hfew : ((backTo cpos (starEach (e :: es) X.env)).all (fun x => !x.1) && (backToKw cpos (keywordEach [] X.env)).all (fun x => x.1.isSome)
      && decide ((e :: es).length + ([] : List Keyword).length + (if ([] : List Keyword).isEmpty then 0 else 1) < 30)) = true := by rfl)
    (hline : (apos.endLine == cpos.line) = true := by rfl) (hs : starEach (e :: es) X.env = (false, eval e X.env) :: starEach es X.env := by rfl) (hplain : (backTo cpos (starEach es X.env)).any (·.1) = false := by rfl) :
    PE X (.Call (.Attribute o name apos) (e :: es) [] cpos) (tBM X.K T r to t) := by
  intro pins s σ H Q I h
  refine wpAny_Call_method_late hbase hfew hline rfl (thn (ho pins s σ H _ I h) fun v s1 ⟨x, H1, I1, r1, ty, q1⟩ => ?_)
  obtain ⟨h1, h2⟩ := tyV_is I1 r1 ty
  refine ⟨T, id, pa, slot, hty, h1, h2, ?_⟩
  have hA := ha cpos pins s1 σ H1 _ I1 q1
  rw [hs] at hA ⊢
  refine Calls.callWith_builtin (by show (false || (backTo cpos (starEach es X.env)).any (·.1)) = false; rw [hplain] <;> rfl) (Calls.evalArgs_plain ?_)
  exact thn hA fun us s2 ⟨vs, H2, I2, r2, q2⟩ => hm pins s2 σ H2 x vs v us Q I2 r1 r2 q2
end
end L2
namespace L2
open PySem PySem.Spec PyProof.Rows
def MtM (X : Cx) (id : String) (r : V → List V → Hp → VK → Prop) : Prop :=
  ∀ (pins : List (Addr × Obj)) (s : Shared) (σ : St) (H : Hp) (x : V) (xs : List V) (v : Value) (us : List Value) (Q : VK), Inv X pins σ H s → RelV x v → Vals xs us → r x xs H Q →
    wpAny (model X.prog X.w) X.A (call (.builtin id) (v :: us)) (EP X pins σ Q) X.xe s
theorem Vals.one : ∀ {x : V} {us : List Value}, Vals [x] us → ∃ u, us = [u] ∧ RelV x u
  | _, _, .cons r .nil => ⟨_, rfl, r⟩
theorem Vals.two : ∀ {x y : V} {us : List Value}, Vals [x, y] us → ∃ u v, us = [u, v] ∧ RelV x u ∧ RelV y v
  | _, _, _, .cons r (.cons q .nil) => ⟨_, _, rfl, r, q⟩
theorem Vals.zero : ∀ {us : List Value}, Vals [] us → us = []
  | _, .nil => rfl
theorem Vals.eraseIdx : ∀ {xs : List V} {us : List Value} (i : Nat), Vals xs us → Vals (xs.eraseIdx i) (us.eraseIdx i)
  | _, _, _, .nil => .nil
  | _, _, 0, .cons _ t => t
  | _, _, i + 1, .cons r t => .cons r (Vals.eraseIdx i t)
theorem Vals.reverse {xs : List V} {us : List Value} (h : Vals xs us) : Vals xs.reverse us.reverse := by
  induction h with
  | nil => exact .nil
  | cons r t ih => rw [List.reverse_cons, List.reverse_cons]; exact Vals.append ih (.cons r .nil)
theorem Vals.rep {xs : List V} {us : List Value} (h : Vals xs us) : ∀ k : Nat, Vals (List.replicate k xs).flatten (List.replicate k us).flatten
  | 0 => .nil
  | k + 1 => by
    rw [List.replicate_succ, List.replicate_succ, List.flatten_cons, List.flatten_cons]
    exact Vals.append h (Vals.rep h k)
theorem foldl_rep (its : List Value) : ∀ (k : Nat) (acc : List Value),
    List.foldl (fun x1 x2 => x1 ++ x2) acc.toArray (List.replicate k its.toArray) = (acc ++ (List.replicate k its).flatten).toArray
  | 0, acc => by simp
  | k + 1, acc => by
    have e : acc.toArray ++ its.toArray = (acc ++ its).toArray := by simp
    have e2 : (acc ++ its) ++ (List.replicate k its).flatten = acc ++ (List.replicate (k + 1) its).flatten := by
      rw [List.replicate_succ, List.flatten_cons, List.append_assoc]
    rw [← e2, ← foldl_rep its k (acc ++ its), ← e, List.replicate_succ, List.foldl_cons]
section
variable {X : Cx} {pins : List (Addr × Obj)} {σ : St} {H : Hp} {s : Shared} {l b : Addr} {xs ys zs : List V}
theorem Inv.lset {its its' : List Value} {n : Nat} {f : Array Value → Array Value} {t' : Nat} (I : Inv X pins σ H s) (hH : H l = some (.lst xs))
    (e : s.heap.get? l = some { cls := .type "list", data := .seq its.toArray n }) (hf : f its.toArray = its'.toArray) (hv : Vals ys its') (hz : ys.length ≤ sizeLine) :
    Inv X pins σ (upd H l (.lst ys)) { s with heap := s.heap.update l (Obj.mapSeq f), toks := t' } := by
  have q := PySem.IsL.update e f
  rw [hf] at q
  refine I.write (x := l) (e := l) (by rw [hH]; exact trivial) (.inl rfl) (fun b' u hb hu => (Heap.get?_update_other s.heap (Obj.mapSeq f) (Ne.symm hb)).trans hu) ⟨_, q⟩ ?_
  exact ⟨hz, its', _, hv, q⟩
theorem Inv.lnew {its : List Value} {t' : Nat} (I : Inv X pins σ H s) (hv : Vals ys its) (hz : ys.length ≤ sizeLine) :
    Inv X pins σ (upd H s.heap.objs.size (.lst ys)) { s with heap := s.heap.push { cls := .type "list", data := .seq its.toArray }, toks := t' } :=
  I.laid (fun _ _ q => Heap.get?_push_of_some _ q) (Nat.le_refl _) ⟨hz, its, 0, hv, Heap.get?_push_size _ rfl⟩
theorem Inv.fresh (I : Inv X pins σ H s) : H s.heap.objs.size = none := I.hok.fresh (Nat.le_refl _)
theorem Inv.lstM (I : Inv X pins σ H s) (hH : H l = some (.lst xs)) : xs.length ≤ sizeLine ∧ ∃ (its : List Value) (n : Nat), Vals xs its ∧ xs.length = its.length ∧ s.heap.get? l = some { cls := .type "list", data := .seq its.toArray n } := by
  obtain ⟨z, its, n, r, e⟩ := I.hok l _ hH
  exact ⟨z, its, n, r, r.length, e⟩
theorem notLongL {n : Nat} (h : n ≤ sizeLine) : Builtin.List.listTooLong n = false := by
  unfold Builtin.List.listTooLong
  exact decide_eq_false (by omega)
end
section
variable {X : Cx}
def rAppend : V → List V → Hp → VK → Prop := fun x vs H Q => ∃ l xs y, x = .ref l ∧ vs = [y] ∧ H l = some (.lst xs) ∧ xs.length < sizeLine ∧ Q .non (upd H l (.lst (xs ++ [y])))
theorem mt_append : MtM X "list.append" rAppend := by
  intro pins s σ H x vs v us Q I rx rv h
  obtain ⟨l, xs, y, rfl, rfl, hH, hz, q⟩ := h
  cases rx
  obtain ⟨u, rfl, ru⟩ := rv.one
  obtain ⟨z, its, n, r, hl, e⟩ := I.lstM hH
  refine call_meets F.slot_list_append ⟨_, e, rfl⟩ F.entry_list_append (F.args_list_append_2 _ _) (PySem.list_append l its.toArray n u (by rw [List.size_toArray]; omega)) ⟨e, ?_⟩
  refine ⟨.non, _, I.lset (its' := its ++ [u]) hH e (by simp) (r.append (.cons ru .nil)) ?_, rfl, q⟩
  rw [List.length_append, List.length_singleton]
  omega
def rCat : R2 := fun x y H Q => ∃ l b xs zs, x = .ref l ∧ y = .ref b ∧ H l = some (.lst xs) ∧ H b = some (.lst zs) ∧ xs.length + zs.length ≤ sizeLine ∧ ∀ p, H p = none → Q (.ref p) (upd H p (.lst (xs ++ zs)))
theorem op_cat : OpR X (binaryOp .Add) rCat := by
  intro pins s σ H x y v u Q I rx ry h
  obtain ⟨l, b, xs, zs, rfl, rfl, hH, hB, hz, q⟩ := h
  cases rx
  cases ry
  obtain ⟨z, its, n, r, hl, e⟩ := I.lstM hH
  obtain ⟨z2, its2, n2, r2, hl2, e2⟩ := I.lstM hB
  refine PySem.P.add_list e e2 ?_ (by rw [List.size_toArray, List.size_toArray]; omega)
  have ea : its.toArray ++ its2.toArray = (its ++ its2).toArray := by simp
  rw [ea]
  exact ⟨.ref _, _, I.lnew (t' := s.toks) (r.append r2) (by rw [List.length_append]; omega), rfl, q _ I.fresh⟩
def rRep : R2 := fun x y H Q => ∃ l k xs, x = .ref l ∧ y = .int k ∧ H l = some (.lst xs) ∧ -(2 ^ 63) ≤ k ∧ k < 2 ^ 63 ∧ xs.length * k.toNat ≤ sizeLine ∧
  ∀ p, H p = none → Q (.ref p) (upd H p (.lst (List.replicate k.toNat xs).flatten))
theorem len_rep {α : Type} (xs : List α) (k : Nat) : (List.replicate k xs).flatten.length = k * xs.length := by
  induction k with
  | zero => simp
  | succ k ih => rw [List.replicate_succ, List.flatten_cons, List.length_append, ih, Nat.succ_mul, Nat.add_comm]
theorem op_rep : OpR X (binaryOp .Mult) rRep := by
  intro pins s σ H x y v u Q I rx ry h
  obtain ⟨l, k, xs, rfl, rfl, hH, h1, h2, hz, q⟩ := h
  cases rx
  obtain ⟨t, rfl⟩ := ry
  obtain ⟨z, its, n, r, hl, e⟩ := I.lstM hH
  have hlen : its.toArray.size * k.toNat ≤ sizeLine := by rw [List.size_toArray, ← hl]; exact hz
  have hcap : ¬ its.toArray.size * k.toNat > (2 ^ 63 - 1) / 8 := by
    have : (sizeLine : Nat) ≤ (2 ^ 63 - 1) / 8 := by decide
    omega
  have hfit : ¬ (!Builtin.List.listFitsIndex k) = true := by
    rw [fitsIndex_both h1 h2]
    exact Bool.false_ne_true
  have hlong : ¬ Builtin.List.listTooLong (its.toArray.size * k.toNat) = true := by
    rw [notLongL hlen]
    exact Bool.false_ne_true
  have hnew : List.foldl (fun x1 x2 => x1 ++ x2) #[] (List.replicate (if its.toArray.isEmpty = true then 0 else k.toNat) its.toArray) = (List.replicate k.toNat its).flatten.toArray := by
    have f0 : ∀ m : Nat, List.foldl (fun x1 x2 => x1 ++ x2) #[] (List.replicate m its.toArray) = (List.replicate m its).flatten.toArray := fun m => by
      have := foldl_rep its m []
      rw [List.nil_append] at this
      exact this
    rw [f0]
    cases its with
    | nil => simp
    | cons a r' => rw [if_neg (by simp)]
  refine wpAny_binaryOp_repeat_ref (T := "list") (U := "int") (by decide) ⟨_, e, rfl⟩ (fun s' => typeIs_int s' k t) noFill_list_mul F.fills_int_mul F.slot_int_rmul repeat_list F.slot_int_index.lookup
    (call_meets F.slot_int_rmul (typeIs_int s k t) F.entry_int_rmul (F.args_int_rmul_2 _ _) (int___rmul___int_list k t l its.toArray n)
      ⟨e, rfl, ⟨_, e, rfl⟩, call_meets F.slot_list_mul ⟨_, e, rfl⟩ F.entry_list_mul (F.args_list_mul_2 _ _) (AutoListH.list___mul___list_int_3 l its.toArray n k t hfit hcap hlong) ⟨e, ?_⟩⟩)
  rw [hnew]
  exact ⟨.ref _, _, I.lnew (t' := s.toks) (r.rep k.toNat) (by rw [len_rep, Nat.mul_comm]; exact hz), rfl, q _ I.fresh⟩
end
section
variable {prog : Program} {w : World} {A : Around} {E : Value → Shared → Prop} {s : Shared}
end
section
variable {X : Cx}
end
end L2
namespace Att
open PySem PySem.W PySem.Calls PyProof.Rows
theorem ints_of_wellAll {P : Params} {h : Heap} : ∀ (ns : List Int) (vs : List Value), WellAll P h vs (ns.map WData.int) → IntsAre vs ns := by
  intro ns
  induction ns with
  | nil =>
    intro vs w
    rw [List.map_nil] at w
    cases w
    exact .nil
  | cons n ns ih =>
    intro vs w
    rw [List.map_cons] at w
    cases w with
    | cons a b =>
      cases a
      exact .cons _ _ (ih _ b)
theorem script_of {l : OpenLaw} {n : Nat} (hn : l.most = some n) {P : Params} {h : Heap} {args : List WData} {vals : List Value}
    (hpre : l.row.toRowW.claim.pre args = true) (hwl : WellAll P h vals args) :
    ∃ a vs ns, vals = [Value.ref a] ∧ args = [WData.list (ns.map WData.int)] ∧ h.get? a = some { cls := .type "list", data := .seq vs.toArray } ∧ IntsAre vs ns ∧ ns.length ≤ n := by
  have hsh : WShape.hasAll [] args [.list .int] = true := (pre_splitW hpre).1
  have hc : l.pre.holds [] { args := args } = true := (pre_splitW hpre).2
  obtain ⟨d, r, rfl, h1, h2⟩ := hasAllW_cons hsh
  obtain rfl := hasAllW_nil h2
  obtain ⟨xs, rfl, h3⟩ := hasW_list h1
  obtain ⟨ns, rfl⟩ := items_int h3
  have hlen : ns.length ≤ n := by
    unfold OpenLaw.pre at hc
    have h4 : (WTm.not (.lt (.lit (.int (n : Int))) (.len (.arg 0)))).holds [] { args := [.list (ns.map .int)] } = true := by
      have h4 := (holds_andW hc).1
      rw [hn] at h4
      exact h4
    have h5 := condW_of h4 (w_not (w_lt w_lit (w_len_list (w_arg rfl))))
    rw [List.length_map] at h5
    refine Nat.le_of_not_lt fun q => ?_
    have q' : (n : Int) < ((ns.length : Nat) : Int) := by omega
    first
      | (rw [decide_eq_true q'] at h5; exact absurd h5 (by decide))
      | (simp at h5; omega)
  cases hwl with
  | cons w1 w2 =>
    cases w2
    cases w1 with
    | list ho hall => exact ⟨_, _, ns, rfl, rfl, ho, ints_of_wellAll ns _ hall, hlen⟩
theorem post_true (l : OpenLaw) (args : List WData) : l.row.toRowW.claim.post args (.bool true) args = true :=
  postW_of (r := l.row.toRowW) (X := (true == true))
    (show WShape.has [] (.bool true) .bool = true by first | rfl | decide | simp [WShape.has, WShape.arms, WShape.armsAll])
    (show (WTm.eq .res (.lit (.bool true))).value [] { args := args, res := some (.bool true), after := args } = some (.bool (true == true)) from w_eq_bool (w_res rfl) w_lit) rfl
theorem attach_call {l : OpenLaw} {n : Nat} {q : Program} {loose : List Str} {XP : (Str → Option Value) → Heap → Prop} {YP : World → Heap → Prop} {d : DefRec}
    (hn : l.most = some n) (hdf : d.params.defaults = [])
    (call : ∀ (w : World) (s₀ s₁ : Shared) (mg mb : Str → Option Value) (fa : Addr) (o : Obj) (pm cd doc : Value) (a : Addr) (vs : List Value) (ns : List Int),
      Ground q loose [] XP w s₀ mg mb s₁.heap → YP w s₁.heap →
      s₁.heap.get? fa = some o → o.data = .func (docDef d.name d.params d.body d.scope pm cd doc) → s₁.heap.CodeRec cd d.name → mg d.name = some (.ref fa) →
      s₁.heap.get? a = some { cls := .type "list", data := .seq vs.toArray } → IntsAre vs ns → ns.length ≤ n → s₁.gens = #[] →
      codeAny (model l.prog w) callerA (.call (.ref fa) ⟨[.ref a], []⟩) (fun r s' => r = .ok (.ret (.bool true)) ∧ OldK s₁.heap s'.heap ∧ s'.os = s₁.os ∧ AllBare s'.gens) s₁) :
    WalkO q loose XP YP l.row.toRowW d [] (fun f vs => PySem.call f vs) := by
  intro w s₀ s₁ mg mb G Y fa o pm cd doc dV kV ho hd hcd hD hmg hg args vals as hpre hlay hrd hwl hlo
  obtain rfl : dV = .none := Dflts.none hD hdf
  obtain rfl : kV = .none := Dflts.noKw hD
  obtain ⟨a, vs, ns, rfl, rfl, hobj, hints, hlen⟩ := script_of hn hpre hwl
  refine enter_call (codeAny_mono (call w s₀ s₁ mg mb fa o pm cd doc a vs ns G Y ho (fd_plain hd) hcd hmg hobj hints hlen hg) fun r s' hq => ?_)
  obtain ⟨rfl, h2, h3, h4⟩ := hq
  exact ⟨.inl ⟨.bool true, .bool true, [], rfl, fun _ => rfl, .bool true, post_true l _, fun _ => ⟨List.Pairwise.nil, fun _ hm => (nomatch hm)⟩⟩, h2, h3, h4⟩
section
variable {prog : Program} {w : World} {A : Around} {E : Value → Shared → Prop} {s : Shared} {K : Frag}
def ledger (h : Heap) (L d : Addr) : List (Addr × Obj) := (List.range h.objs.size).filterMap fun a => if a = L ∨ a = d then none else (h.get? a).map fun o => (a, o)
end
end Att
namespace L2
open PySem PySem.Spec PyProof.Rows
theorem vals_ints : ∀ {vs : List Value} {ns : List Int}, IntsAre vs ns → Vals (ns.map V.int) vs
  | _, _, .nil => .nil
  | _, _, .cons n t h => .cons ⟨t, rfl⟩ (vals_ints h)
def Only (H : Hp) : Prop := ∀ b, H b = none ∨ ∃ o xs, H b = some (.frz o (.lst xs))
theorem law_call {P : Program} {w : World} {K : PySem.W.Frag} {mg mb : Str → Option Value} {CX : CXT} {k : Nat} {fa a : Addr} {fd : FuncData} {x : Str} {sp : Sp} {s₁ : Shared} {vs : List Value} {ns : List Int}
    (KX : K.In s₁.heap) (hns : s₁.heap.Ns mainGlobals mg) (hb : s₁.heap.Ns builtinsNs mb) (hbb : ∀ x : Str, x ≠ "__name__" → mb x = bootBuiltins x) (hlim : s₁.heap.NoLimit) (hg : s₁.gens = #[])
    (ha : s₁.heap.get? a = some { cls := .type "list", data := .seq vs.toArray }) (hi : IntsAre vs ns) (hl : ns.length ≤ sizeLine) (hr : Room k callerA)
    (F : ∀ base : Heap, K.In base → base.Ns mainGlobals mg → FnOk P w K mg base CX k fa fd [x] sp) (hbind : ∀ (s : Shared) (u : Value), BindsTo s fd ⟨[u], []⟩ [(x, u)])
    (hsp : ∀ H : Hp, Only H → SqL K H a (ns.map V.int) → sp [.ref a] H (fun v _ => v = .bl true) fun _ _ _ => False)
    (hCX : ∀ H e s', CX [] H s₁ (fun _ _ _ => False) e s' → False) :
    codeAny (model P w) callerA (.call (.ref fa) ⟨[.ref a], []⟩) (fun r s' => r = .ok (.ret (.bool true)) ∧ OldK s₁.heap s'.heap ∧ s'.os = s₁.os ∧ AllBare s'.gens) s₁ := by
  have rv := vals_ints hi
  have lenV := hi.length
  have core : ∀ H : Hp, Only H → SqL K H a (ns.map V.int) → HOk P w H s₁.heap → (∀ b, H b ≠ none → b = a) → (H a ≠ none → K.lookup a = none) →
      codeAny (model P w) callerA (.call (.ref fa) ⟨[.ref a], []⟩) (fun r s' => r = .ok (.ret (.bool true)) ∧ OldK s₁.heap s'.heap ∧ s'.os = s₁.os ∧ AllBare s'.gens) s₁ := by
    intro H hO hS hok hA hK
    have base_of : ∀ {b : Addr} {o : Obj}, s₁.heap.get? b = some o → H b = none → (hidT s₁.heap H).get? b = some o := fun e n => hidT_get e n
    have noA : ∀ {b : Addr} {o : Obj} {es : Array DictEntry} {ep : Nat}, s₁.heap.get? b = some o → o.data = .dict es ep → H b = none := fun {b o es ep} e d => by
      cases q : H b with
      | none => rfl
      | some u =>
        have e' : b = a := hA b (by rw [q]; simp)
        subst e'
        rw [ha] at e; cases e
        have d' : Data.seq vs.toArray _ = Data.dict es ep := d
        cases d'
    have nsK : ∀ {b : Addr} {m : Str → Option Value}, s₁.heap.Ns b m → (hidT s₁.heap H).Ns b m := fun {b m} ⟨o, es, ep, e, d, r⟩ => ⟨o, es, ep, base_of e (noA e d), d, r⟩
    have hKb : K.In (hidT s₁.heap H) := fun b o e => base_of (KX b o e) (by
      cases q : H b with
      | none => rfl
      | some u =>
        have e' : b = a := hA b (by rw [q]; simp)
        subst e'
        rw [hK (by rw [q]; simp)] at e; cases e)
    have hM : Mod K mg (hidT s₁.heap H) := ⟨hKb, nsK hns, ⟨mb, nsK hb, hbb⟩, let ⟨mc, h1, h2⟩ := hlim; ⟨mc, nsK h1, h2⟩⟩
    have e0 : Env0 P w K mg (hidT s₁.heap H) callerA [] s₁ H := ⟨rfl, hM, fun b o e => of_hidT e, Nat.le_of_eq (hidT_size _ _), trivial, fun b hb => absurd (show b ∈ ([] : List Addr) from hb) (by simp), hok, .of_eq hg⟩
    refine codeAny_mono ((F _ hKb (nsK hns)).run callerA [] s₁ H ⟨[.ref a], []⟩ [.ref a] [.ref a] _ _ hr e0 (hbind s₁ (.ref a)) (.cons rfl .nil) (hsp H hO hS)) fun r s' h => ?_
    cases r with
    | error e => exact (hCX H e s' h).elim
    | ok fl =>
      cases fl with
      | next => exact False.elim h
      | brk => exact False.elim h
      | cont => exact False.elim h
      | ret u =>
        obtain ⟨v, H', os, bare, un, hok', r', q⟩ := h
        have q' : v = .bl true := q
        subst q'
        obtain rfl : u = Value.bool true := r'
        refine ⟨rfl, OldK.of_keep fun b o e => ?_, os, bare⟩
        cases q : H b with
        | none => exact un.keep b o e q (by intro z; exact absurd (show b ∈ ([] : List Addr) from z) (by simp)) (by simp)
        | some u =>
          rcases hO b with z | ⟨ob, xs, z⟩
          · rw [q] at z; cases z
          · have z2 := un.frzs b ob _ z
            obtain ⟨e1, _⟩ := hok b _ z
            obtain ⟨e2, _⟩ := hok' b _ z2
            rw [e] at e1; cases e1
            exact e2
  cases hk : K.lookup a with
  | some o =>
    have e := KX a o hk
    rw [ha] at e
    cases e
    refine core (fun _ => none) (fun _ => .inl rfl) (.inr ⟨_, vs.toArray, _, hk, rfl, rfl, rfl, by rw [List.size_toArray, lenV]; exact hl, by simpa using rv⟩) (fun b u z => by have z' : (none : Option HO) = some u := z; cases z') (fun b z => absurd rfl z) fun z => absurd rfl z
  | none =>
    refine core (fun b => if b = a then some (.frz { cls := .type "list", data := .seq vs.toArray } (.lst (ns.map V.int))) else none) (fun b => ?_) (.inl (.inr ⟨{ cls := .type "list", data := .seq vs.toArray }, if_pos rfl⟩)) (fun b u z => ?_) (fun b z => ?_) fun _ => hk
    · by_cases hb : b = a
      · exact .inr ⟨_, _, if_pos hb⟩
      · exact .inl (if_neg hb)
    · by_cases hb : b = a
      · have z' := (if_pos hb).symm.trans z
        cases z'
        subst hb
        exact ⟨ha, by rw [List.length_map]; exact hl, vs, _, rv, ha⟩
      · have z' := (if_neg hb).symm.trans z
        cases z'
    · by_cases hb : b = a
      · exact hb
      · exact absurd (if_neg hb) z
end L2
namespace L2
open PySem PySem.Spec PyProof.Rows
abbrev KOf {K : PySem.W.Frag} {h : Heap} (_ : K.In h) : PySem.W.Frag := K
theorem walk_of {l : PySem.W.OpenLaw} {n k : Nat} {q : Program} {loose : List Str} {XP : (Str → Option Value) → Heap → Prop} {YP : World → Heap → Prop} {d : DefRec} {K : Params → PySem.W.Frag} {CX : World → CXT} {sp : World → Sp} {x : Str}
    (hn : l.most = some n) (hn2 : n ≤ sizeLine) (hdf : d.params.defaults = []) (hr : Room k callerA)
    (hY : ∀ (w : World) (h : Heap), YP w h → (K w.params).In h)
    (F : ∀ (w : World) (mg : Str → Option Value) (fa : Addr) (h : Heap), (K w.params).In h → h.Ns mainGlobals mg → mg d.name = some (.ref fa) →
      ∃ fd : FuncData, (∀ (s : Shared) (u : Value), BindsTo s fd ⟨[u], []⟩ [(x, u)]) ∧
        ∀ base : Heap, (K w.params).In base → base.Ns mainGlobals mg → FnOk l.prog w (K w.params) mg base (CX w) k fa fd [x] (sp w))
    (hsp : ∀ (w : World) (H : Hp) (a : Addr) (ns : List Int), ns.length ≤ n → Only H → SqL (K w.params) H a (ns.map V.int) → sp w [.ref a] H (fun v _ => v = .bl true) fun _ _ _ => False)
    (hCX : ∀ (w : World) (H : Hp) (s : Shared) (e : Value) (s' : Shared), CX w [] H s (fun _ _ _ => False) e s' → False) :
    PySem.W.WalkO q loose XP YP l.row.toRowW d [] (fun f vs => PySem.call f vs) := by
  refine Att.attach_call hn hdf fun w s₀ s₁ mg mb fa o pm cd doc a vs ns G Y ho hd hcd hmg hobj hints hlen hg => ?_
  have KX := hY w _ Y
  obtain ⟨fd, hb, hF⟩ := F w mg fa _ KX G.T.g hmg
  exact law_call KX G.T.g G.T.b G.T.builtins G.T.nolimit hg hobj hints (Nat.le_trans hlen hn2) hr hF hb (fun H hO hS => hsp w H a ns hlen hO hS) fun H e s' => hCX w H s₁ e s'
end L2
namespace L2
open PySem PySem.Spec PyProof.Rows
def defArgs (s : Stmt) : Arguments := match s with
  | .FunctionDef _ a _ _ _ _ _ _ _ _ => a
  | _ => { posonlyargs := [], args := [], vararg := none, kwonlyargs := [], kw_defaults := [], kwarg := none, defaults := [] }
def defBody (s : Stmt) : List Stmt := match s with
  | .FunctionDef _ _ b _ _ _ _ _ _ _ => b
  | _ => []
def defScope (s : Stmt) : Scope := match s with
  | .FunctionDef _ _ _ _ _ _ sc _ _ _ => sc
  | _ => { kind := .function, names := [], isGenerator := false, isCoroutine := false }
abbrev CX0 : CXT := fun _ _ _ _ _ _ => False
abbrev E0 : XK := fun _ _ _ => False
theorem pass0 {X : Cx} : Passes CX0 X E0 := fun _ _ _ _ _ _ _ h => h.elim
structure Fun (K : PySem.W.Frag) (x qual : Str) (st : Stmt) (f : Addr) (fd : FuncData) : Prop where
  ex : ∃ (oc : Value) (od : Option Addr) (kV doc pm : Value) (an : Option Addr) (cdv ct : Value) (osl : Array (Option Value)),
    fd = PySem.W.fnOf x qual (defArgs st) (defBody st) (defScope st) .none kV doc pm an cdv ct ∧ K.lookup f = some ⟨oc, od, .func fd, osl⟩ ∧ PySem.W.codeIn K cdv qual = true
  kp : PySem.W.keepIn K (.ref f) = true
section
variable {P : Program} {w : World} {K : PySem.W.Frag} {mg : Str → Option Value} {base : Heap}
theorem Fun.ok {x qual : Str} {st : Stmt} {f : Addr} {fd : FuncData} {N ps : List Str} {k : Nat} {sp : Sp} (F : Fun K x qual st f fd) (S : FnScope N ps (defScope st)) (len : ∀ vs H Q E, sp vs H Q E → vs.length = ps.length)
    (hbody : ∀ (cdv : Value) (A : Around) (outer : List Env) (s : Shared) (H : Hp) (vs : List V) (Q : VK) (E : XK), Room k (A.deeper (envOfC qual (defScope st) s.heap.objs.size f cdv)) → sp vs H Q E →
      ∃ t, PSs (cxOf CX0 P w K mg base N qual (defScope st) f cdv A outer s H E).nox (defBody st) t ∧ t { nx := fun _ H' => Q .non H', rt := Q } (start N vs) H) : FnOk P w K mg base CX0 (k + 1) f fd ps sp := by
  obtain ⟨oc, od, kV, doc, pm, an, cdv, ct, osl, rfl, lk, hcd⟩ := F.ex
  refine fn_of lk hcd S len fun A outer s H vs Q E hr hsp => ?_
  obtain ⟨t, h, q⟩ := hbody cdv A outer s H vs Q E hr hsp
  exact ⟨t, h.nox, q⟩
theorem Fun.binds {x qual : Str} {st : Stmt} {f : Addr} {fd : FuncData} {ps : List Str} (F : Fun K x qual st f fd)
    (h : ∀ (kV doc pm : Value) (an : Option Addr) (cdv ct : Value) (us : List Value), us.length = ps.length → bindArgs (PySem.W.fnOf x qual (defArgs st) (defBody st) (defScope st) .none kV doc pm an cdv ct) ⟨us, []⟩ = pure (ps.zip us)) : Binds K fd ps [] := by
  obtain ⟨oc, od, kV, doc, pm, an, cdv, ct, osl, rfl, lk, hcd⟩ := F.ex
  exact .all (h kV doc pm an cdv ct)
theorem fun_mk {x qual : Str} {st : Stmt} {f : Addr} {oc : Value} {od an : Option Addr} {osl : Array (Option Value)} {kV doc pm cdv ct : Value} (l : K.lookup f = some ⟨oc, od, .func (PySem.W.fnOf x qual (defArgs st) (defBody st) (defScope st) .none kV doc pm an cdv ct), osl⟩)
    (c : PySem.W.codeIn K cdv qual = true) (k : PySem.W.keepIn K (.ref f) = true) : Fun K x qual st f (PySem.W.fnOf x qual (defArgs st) (defBody st) (defScope st) .none kV doc pm an cdv ct) := ⟨⟨oc, od, kV, doc, pm, an, cdv, ct, osl, rfl, l, c⟩, k⟩
end
section
variable {X : Cx}
end
theorem iteF {A B : Prop} (h : B) : if false = true then A else B := by
  rw [if_neg Bool.false_ne_true]
  exact h
theorem iteT {A B : Prop} (h : A) : if true = true then A else B := by
  rw [if_pos rfl]
  exact h
def Same (H H' : Hp) : Prop := ∀ b o, H b = some o → H' b = some o
theorem Same.refl (H : Hp) : Same H H := fun _ _ h => h
theorem Same.trans {H H1 H2 : Hp} (a : Same H H1) (b : Same H1 H2) : Same H H2 := fun c o h => b c o (a c o h)
theorem Same.free {H H' : Hp} (e : Same H H') {l : Addr} (h : H' l = Option.none) : H l = Option.none := by
  cases q : H l with
  | none => rfl
  | some o =>
    rw [e l o q] at h
    cases h
theorem Same.seq {K : PySem.W.Frag} {H H' : Hp} {a : Addr} {xs : List V} (e : Same H H') (h : SqL K H a xs) : SqL K H' a xs := by
  rcases h with (h | ⟨o, h⟩) | h
  · exact .inl (.inl (e _ _ h))
  · exact .inl (.inr ⟨o, e _ _ h⟩)
  · exact .inr h
end L2
namespace FD
open PySem PySem.Spec PyProof.Rows L2
inductive Dv where
  | non | bl (b : Bool) | int (i : Int) | str (x : Str) | tup (xs : List Dv) | lst (xs : List Dv) | scr (ns : List Int) | exn (c : Nat)
def xnm : Nat → Str
  | 0 => "NoName" | 1 => "NoTable" | 2 => "NoPath" | 3 => "NoAsk" | 4 => "NoNote" | 5 => "NoJar" | 6 => "NoNumber" | 7 => "NoText" | 8 => "NoStep" | _ => "JarError"
mutual
def Rep (K : PySem.W.Frag) (H : Hp) : Dv → V → Prop
  | .non, v => v = .non
  | .bl b, v => v = .bl b
  | .int i, v => v = .int i
  | .str x, v => v = .str x
  | .tup ds, v => ∃ a xs, v = .ref a ∧ H a = some (.tup xs) ∧ Reps K H ds xs
  | .lst ds, v => ∃ a xs, v = .ref a ∧ H a = some (.lst xs) ∧ Reps K H ds xs
  | .scr ns, v => ∃ a, v = .ref a ∧ SqL K H a (ns.map V.int)
  | .exn c, v => ∃ a o u C, v = .ref a ∧ H a = some (.frz o u) ∧ o.cls = .ref C ∧ PySem.W.nsIn K mainGlobals (xnm c) = some (some (.ref C))
def Reps (K : PySem.W.Frag) (H : Hp) : List Dv → List V → Prop
  | [], vs => vs = []
  | d :: ds, vs => ∃ v us, vs = v :: us ∧ Rep K H d v ∧ Reps K H ds us
end
section
variable {K : PySem.W.Frag} {H H' : Hp}
mutual
theorem Rep.mono (e : Same H H') : ∀ (d : Dv) (v : V), Rep K H d v → Rep K H' d v
  | .non, _, h => h
  | .bl _, _, h => h
  | .int _, _, h => h
  | .str _, _, h => h
  | .tup ds, v, h => by
    obtain ⟨a, xs, r, h, q⟩ : ∃ a xs, v = .ref a ∧ H a = some (.tup xs) ∧ Reps K H ds xs := h
    exact ⟨a, xs, r, e _ _ h, Reps.mono e ds xs q⟩
  | .lst ds, v, h => by
    obtain ⟨a, xs, r, h, q⟩ : ∃ a xs, v = .ref a ∧ H a = some (.lst xs) ∧ Reps K H ds xs := h
    exact ⟨a, xs, r, e _ _ h, Reps.mono e ds xs q⟩
  | .scr ns, v, h => by
    obtain ⟨a, r, h⟩ : ∃ a, v = .ref a ∧ SqL K H a (ns.map V.int) := h
    exact ⟨a, r, e.seq h⟩
  | .exn c, v, h => by
    obtain ⟨a, o, u, C, r, h, q⟩ : ∃ a o u C, v = .ref a ∧ H a = some (.frz o u) ∧ o.cls = .ref C ∧ PySem.W.nsIn K mainGlobals (xnm c) = some (some (.ref C)) := h
    exact ⟨a, o, u, C, r, e _ _ h, q⟩
theorem Reps.mono (e : Same H H') : ∀ (ds : List Dv) (vs : List V), Reps K H ds vs → Reps K H' ds vs
  | [], _, h => h
  | d :: ds, vs, h => by
    obtain ⟨v, us, r, h, q⟩ : ∃ v us, vs = v :: us ∧ Rep K H d v ∧ Reps K H ds us := h
    exact ⟨v, us, r, Rep.mono e d v h, Reps.mono e ds us q⟩
end
theorem Reps.nil : Reps K H [] [] := rfl
theorem Reps.cons {d ds v vs} (h : Rep K H d v) (t : Reps K H ds vs) : Reps K H (d :: ds) (v :: vs) := ⟨v, vs, rfl, h, t⟩
theorem Reps.length : ∀ {ds : List Dv} {vs : List V}, Reps K H ds vs → vs.length = ds.length
  | [], vs, h => by cases (show vs = [] from h); rfl
  | d :: ds, vs, h => by
    obtain ⟨v, us, r, _, q⟩ : ∃ v us, vs = v :: us ∧ Rep K H d v ∧ Reps K H ds us := h
    subst r
    show us.length + 1 = ds.length + 1
    rw [Reps.length q]
theorem Reps.get : ∀ {ds : List Dv} {vs : List V} {i : Nat} {v : V}, Reps K H ds vs → vs[i]? = some v → ∃ d, ds[i]? = some d ∧ Rep K H d v
  | [], vs, i, v, h, e => by cases (show vs = [] from h); simp at e
  | d :: ds, vs, i, v, h, e => by
    obtain ⟨v', us, r, h', q⟩ : ∃ v us, vs = v :: us ∧ Rep K H d v ∧ Reps K H ds us := h
    subst r
    cases i with
    | zero => simp at e; subst e; exact ⟨d, rfl, h'⟩
    | succ i =>
      obtain ⟨d', e', r'⟩ := Reps.get (i := i) q (by simpa using e)
      exact ⟨d', by simpa using e', r'⟩
theorem Reps.get' : ∀ {ds : List Dv} {vs : List V} {i : Nat} {d : Dv}, Reps K H ds vs → ds[i]? = some d → ∃ v, vs[i]? = some v ∧ Rep K H d v
  | [], vs, i, v, h, e => by simp at e
  | d :: ds, vs, i, d0, h, e => by
    obtain ⟨v', us, r, h', q⟩ : ∃ v us, vs = v :: us ∧ Rep K H d v ∧ Reps K H ds us := h
    subst r
    cases i with
    | zero => simp at e; subst e; exact ⟨v', rfl, h'⟩
    | succ i =>
      obtain ⟨d', e', r'⟩ := Reps.get' (i := i) q (by simpa using e)
      exact ⟨d', by simpa using e', r'⟩
theorem Reps.append : ∀ {ds es : List Dv} {vs us : List V}, Reps K H ds vs → Reps K H es us → Reps K H (ds ++ es) (vs ++ us)
  | [], es, vs, us, h, q => by cases (show vs = [] from h); exact q
  | d :: ds, es, vs, us, h, q => by
    obtain ⟨v', vs', r, h', t⟩ : ∃ v us, vs = v :: us ∧ Rep K H d v ∧ Reps K H ds us := h
    subst r
    exact ⟨v', vs' ++ us, rfl, h', Reps.append t q⟩
theorem Reps.take : ∀ {ds : List Dv} {vs : List V} (n : Nat), Reps K H ds vs → Reps K H (ds.take n) (vs.take n)
  | ds, vs, 0, _ => by simp [Reps]
  | [], vs, n + 1, h => by cases (show vs = [] from h); exact rfl
  | d :: ds, vs, n + 1, h => by
    obtain ⟨v', vs', r, h', t⟩ : ∃ v us, vs = v :: us ∧ Rep K H d v ∧ Reps K H ds us := h
    subst r
    exact ⟨v', vs'.take n, rfl, h', Reps.take n t⟩
theorem Reps.drop : ∀ {ds : List Dv} {vs : List V} (n : Nat), Reps K H ds vs → Reps K H (ds.drop n) (vs.drop n)
  | ds, vs, 0, h => h
  | [], vs, n + 1, h => by cases (show vs = [] from h); exact rfl
  | d :: ds, vs, n + 1, h => by
    obtain ⟨v', vs', r, h', t⟩ : ∃ v us, vs = v :: us ∧ Rep K H d v ∧ Reps K H ds us := h
    subst r
    exact Reps.drop n t
theorem Rep.lstE {ds : List Dv} {v : V} (h : Rep K H (.lst ds) v) : ∃ a xs, v = .ref a ∧ H a = some (.lst xs) ∧ Reps K H ds xs := h
theorem Rep.tupE {ds : List Dv} {v : V} (h : Rep K H (.tup ds) v) : ∃ a xs, v = .ref a ∧ H a = some (.tup xs) ∧ Reps K H ds xs := h
theorem Rep.exnE {c : Nat} {v : V} (h : Rep K H (.exn c) v) : ∃ a o u C, v = .ref a ∧ H a = some (.frz o u) ∧ o.cls = .ref C ∧ PySem.W.nsIn K mainGlobals (xnm c) = some (some (.ref C)) := h
theorem Rep.scrE {ns : List Int} {v : V} (h : Rep K H (.scr ns) v) : ∃ a, v = .ref a ∧ SqL K H a (ns.map V.int) := h
end
theorem same_new {H : Hp} {p : Addr} (h : H p = none) (o : HO) : Same H (upd H p o) := fun b u q => by rw [upd_ne (ne_of_none q h)]; exact q
abbrev Ev := List (Option Dv)
structure Envs (K : PySem.W.Frag) (H : Hp) (σ : L2.St) (ρ : Ev) : Prop where
  len : σ.length = ρ.length
  at' : ∀ (i : Nat) (d : Dv), ρ[i]? = some (some d) → ∃ v, σ[i]? = some (some v) ∧ Rep K H d v
theorem Envs.mono {K : PySem.W.Frag} {H H' : Hp} {σ : L2.St} {ρ : Ev} (E : Envs K H σ ρ) (e : Same H H') : Envs K H' σ ρ :=
  ⟨E.len, fun i d h => let ⟨v, h1, h2⟩ := E.at' i d h; ⟨v, h1, Rep.mono e d v h2⟩⟩
theorem Envs.set {K : PySem.W.Frag} {H : Hp} {σ : L2.St} {ρ : Ev} {i : Nat} {d : Dv} {v : V} (E : Envs K H σ ρ) (r : Rep K H d v) : Envs K H (σ.set i (some v)) (ρ.set i (some d)) := by
  refine ⟨by rw [List.length_set, List.length_set]; exact E.len, fun j d' h => ?_⟩
  by_cases hj : i = j
  · subst hj
    by_cases hl : i < ρ.length
    · rw [List.getElem?_set_self hl] at h
      cases h
      exact ⟨v, by rw [List.getElem?_set_self (by rw [E.len]; exact hl)], r⟩
    · rw [List.getElem?_eq_none (by rw [List.length_set]; omega)] at h
      cases h
  · rw [List.getElem?_set_ne hj] at h
    rw [List.getElem?_set_ne hj]
    exact E.at' j d' h
def fgt (js : List Nat) (ρ : Ev) : Ev := js.foldl (fun r j => r.set j none) ρ
theorem Envs.fgt1 {K : PySem.W.Frag} {H : Hp} {σ : L2.St} {ρ : Ev} (j : Nat) (E : Envs K H σ ρ) : Envs K H σ (ρ.set j none) := by
  refine ⟨by rw [List.length_set]; exact E.len, fun i d h => ?_⟩
  by_cases hj : j = i
  · subst hj
    by_cases hl : j < ρ.length
    · rw [List.getElem?_set_self hl] at h
      cases h
    · rw [List.getElem?_eq_none (by rw [List.length_set]; omega)] at h
      cases h
  · rw [List.getElem?_set_ne hj] at h
    exact E.at' i d h
theorem Envs.fgt {K : PySem.W.Frag} {H : Hp} {σ : L2.St} : ∀ (js : List Nat) {ρ : Ev}, Envs K H σ ρ → Envs K H σ (fgt js ρ)
  | [], _, E => E
  | j :: js, _, E => Envs.fgt js (E.fgt1 j)
inductive Rs (α : Type) where
  | ok (a : α)
  | exc (c : Nat)
inductive Fl where
  | nx (ρ : Ev)
  | rt (d : Dv)
  | exc (c : Nat)
def Fly (N : Addr → Prop) (H : Hp) (e : Addr) (cls : Value) (h : Heap) : Prop := H e = none ∧ N e ∧ ∃ oe vs a0, h.get? e = some oe ∧ oe.cls = cls ∧ oe.data = .fields vs ∧ vs[0]? = some a0 ∧
  (vs[1]? = some .none ∨ ∃ T oT ts, vs[1]? = some (.ref T) ∧ T ≠ e ∧ H T = none ∧ N T ∧ h.get? T = some oT ∧ oT.data = .fields ts ∧ ts[3]? = some .none)
def newX (X : Cx) (a : Addr) : Prop := X.s₀.heap.get? a = none ∧ ∀ p ∈ X.pn, p.1 ≠ a
def ExcAt (X : Cx) (H : Hp) (c : Nat) (e : Value) (s : Shared) : Prop := ∃ a C, e = .ref a ∧ PySem.W.nsIn X.K mainGlobals (xnm c) = some (some (.ref C)) ∧ Fly (newX X) H a (.ref C) s.heap
def XW (X : Cx) (c : Nat) (H : Hp) : Prop := ∀ pins σ H' s e, Same H H' → Inv X pins σ H' s → ExcAt X H' c e s → X.xe e s
theorem XW.mono {X : Cx} {c : Nat} {H H' : Hp} (h : XW X c H) (e : Same H H') : XW X c H' := fun pins σ H1 s x e1 I q => h pins σ H1 s x (e.trans e1) I q
def Out (X : Cx) (H : Hp) (o : Option (Rs Dv)) (Q : VK) : Prop := match o with
  | none => False
  | some (.exc c) => XW X c H
  | some (.ok d) => ∀ v H', Same H H' → Rep X.K H' d v → Q v H'
def OutB (X : Cx) (H : Hp) (o : Option (Rs Bool)) (Q : Bool → Hp → Prop) : Prop := match o with
  | none => False
  | some (.exc c) => XW X c H
  | some (.ok d) => ∀ H', Same H H' → Q d H'
def OutA (X : Cx) (H : Hp) (o : Option (Rs (List Dv))) (Q : List V → Hp → Prop) : Prop := match o with
  | none => False
  | some (.exc c) => XW X c H
  | some (.ok ds) => ∀ vs H', Same H H' → Reps X.K H' ds vs → Q vs H'
def OutS (X : Cx) (H : Hp) (o : Option Fl) (D : Ends) : Prop := match o with
  | none => False
  | some (.exc c) => XW X c H
  | some (.rt d) => ∀ v H', Same H H' → Rep X.K H' d v → D.rt v H'
  | some (.nx ρ) => ∀ σ H', Same H H' → Envs X.K H' σ ρ → D.nx σ H'
def bnd {α β : Type} (o : Option (Rs α)) (k : α → Option (Rs β)) : Option (Rs β) := match o with
  | none => none
  | some (.exc c) => some (.exc c)
  | some (.ok a) => k a
def bndS {α : Type} (o : Option (Rs α)) (k : α → Option Fl) : Option Fl := match o with
  | none => none
  | some (.exc c) => some (.exc c)
  | some (.ok a) => k a
def sq (o : Option Fl) (k : Ev → Option Fl) : Option Fl := match o with
  | some (.nx ρ) => k ρ
  | o => o
section
variable {X : Cx} {H H' : Hp} {Q : VK} {QB : Bool → Hp → Prop} {QA : List V → Hp → Prop} {D : Ends}
theorem Out.mono (e : Same H H') : ∀ {o : Option (Rs Dv)}, Out X H o Q → Out X H' o Q
  | none, h => h
  | some (.exc _), h => XW.mono h e
  | some (.ok _), h => fun v H1 e1 r => h v H1 (e.trans e1) r
theorem OutB.mono (e : Same H H') : ∀ {o : Option (Rs Bool)}, OutB X H o QB → OutB X H' o QB
  | none, h => h
  | some (.exc _), h => XW.mono h e
  | some (.ok _), h => fun H1 e1 => h H1 (e.trans e1)
theorem OutA.mono (e : Same H H') : ∀ {o : Option (Rs (List Dv))}, OutA X H o QA → OutA X H' o QA
  | none, h => h
  | some (.exc _), h => XW.mono h e
  | some (.ok _), h => fun v H1 e1 r => h v H1 (e.trans e1) r
theorem OutS.mono (e : Same H H') : ∀ {o : Option Fl}, OutS X H o D → OutS X H' o D
  | none, h => h
  | some (.exc _), h => XW.mono h e
  | some (.rt _), h => fun v H1 e1 r => h v H1 (e.trans e1) r
  | some (.nx _), h => fun v H1 e1 r => h v H1 (e.trans e1) r
theorem Out.bind {o : Option (Rs Dv)} {k : Dv → Option (Rs Dv)} {P : VK} (h : Out X H (bnd o k) Q) (hp : ∀ d v H', Same H H' → Rep X.K H' d v → Out X H' (k d) Q → P v H') : Out X H o P := by
  match o, h with
  | some (.exc _), h => exact h
  | some (.ok d), h => exact fun v H1 e r => hp d v H1 e r (Out.mono e h)
theorem Out.bindB {o : Option (Rs Dv)} {k : Dv → Option (Rs Bool)} {P : VK} (h : OutB X H (bnd o k) QB) (hp : ∀ d v H', Same H H' → Rep X.K H' d v → OutB X H' (k d) QB → P v H') : Out X H o P := by
  match o, h with
  | some (.exc _), h => exact h
  | some (.ok d), h => exact fun v H1 e r => hp d v H1 e r (OutB.mono e h)
theorem Out.bindA {o : Option (Rs Dv)} {k : Dv → Option (Rs (List Dv))} {P : VK} (h : OutA X H (bnd o k) QA) (hp : ∀ d v H', Same H H' → Rep X.K H' d v → OutA X H' (k d) QA → P v H') : Out X H o P := by
  match o, h with
  | some (.exc _), h => exact h
  | some (.ok d), h => exact fun v H1 e r => hp d v H1 e r (OutA.mono e h)
theorem Out.bindS {o : Option (Rs Dv)} {k : Dv → Option Fl} {P : VK} (h : OutS X H (bndS o k) D) (hp : ∀ d v H', Same H H' → Rep X.K H' d v → OutS X H' (k d) D → P v H') : Out X H o P := by
  match o, h with
  | some (.exc _), h => exact h
  | some (.ok d), h => exact fun v H1 e r => hp d v H1 e r (OutS.mono e h)
theorem OutB.bind {o : Option (Rs Bool)} {k : Bool → Option (Rs Dv)} {P : Bool → Hp → Prop} (h : Out X H (bnd o k) Q) (hp : ∀ b H', Same H H' → Out X H' (k b) Q → P b H') : OutB X H o P := by
  match o, h with
  | some (.exc _), h => exact h
  | some (.ok d), h => exact fun H1 e => hp d H1 e (Out.mono e h)
theorem OutB.bindB {o : Option (Rs Bool)} {k : Bool → Option (Rs Bool)} {P : Bool → Hp → Prop} (h : OutB X H (bnd o k) QB) (hp : ∀ b H', Same H H' → OutB X H' (k b) QB → P b H') : OutB X H o P := by
  match o, h with
  | some (.exc _), h => exact h
  | some (.ok d), h => exact fun H1 e => hp d H1 e (OutB.mono e h)
theorem OutB.bindS {o : Option (Rs Bool)} {k : Bool → Option Fl} {P : Bool → Hp → Prop} (h : OutS X H (bndS o k) D) (hp : ∀ b H', Same H H' → OutS X H' (k b) D → P b H') : OutB X H o P := by
  match o, h with
  | some (.exc _), h => exact h
  | some (.ok d), h => exact fun H1 e => hp d H1 e (OutS.mono e h)
theorem OutA.bind {o : Option (Rs (List Dv))} {k : List Dv → Option (Rs Dv)} {P : List V → Hp → Prop} (h : Out X H (bnd o k) Q) (hp : ∀ ds vs H', Same H H' → Reps X.K H' ds vs → Out X H' (k ds) Q → P vs H') : OutA X H o P := by
  match o, h with
  | some (.exc _), h => exact h
  | some (.ok d), h => exact fun v H1 e r => hp d v H1 e r (Out.mono e h)
theorem OutA.bindA {o : Option (Rs (List Dv))} {k : List Dv → Option (Rs (List Dv))} {P : List V → Hp → Prop} (h : OutA X H (bnd o k) QA) (hp : ∀ ds vs H', Same H H' → Reps X.K H' ds vs → OutA X H' (k ds) QA → P vs H') : OutA X H o P := by
  match o, h with
  | some (.exc _), h => exact h
  | some (.ok d), h => exact fun v H1 e r => hp d v H1 e r (OutA.mono e h)
end
abbrev FnE := Ev → Option (Rs Dv)
abbrev FnB := Ev → Option (Rs Bool)
abbrev FnA := Ev → Option (Rs (List Dv))
abbrev FnS := Ev → Option Fl
def tF (X : Cx) (f : FnE) : TE := fun σ H Q => ∃ ρ, Envs X.K H σ ρ ∧ Out X H (f ρ) Q
def tT (X : Cx) (f : FnB) : TT := fun σ H Q => ∃ ρ, Envs X.K H σ ρ ∧ OutB X H (f ρ) Q
def tA (X : Cx) (f : FnA) : TA := fun σ H Q => ∃ ρ, Envs X.K H σ ρ ∧ OutA X H (f ρ) Q
def tS (X : Cx) (f : FnS) : TS := fun D σ H => ∃ ρ, Envs X.K H σ ρ ∧ OutS X H (f ρ) D
structure FE (X : Cx) (e : Expr) (f : FnE) : Prop where
  h : PE X e (tF X f)
structure FT (X : Cx) (e : Expr) (f : FnB) : Prop where
  h : PT X e (tT X f)
structure FW (X : Cx) (e : Expr) (f : FnB) : Prop where
  h : PW X e (tT X f)
structure FA (X : Cx) (es : List Expr) (f : FnA) : Prop where
  h : PA X es (tA X f)
structure FS (X : Cx) (st : Stmt) (f : FnS) : Prop where
  h : PS X st (tS X f)
structure FSs (X : Cx) (st : List Stmt) (f : FnS) : Prop where
  h : PSs X st (tS X f)
section
variable {X : Cx} {a b c e : Expr} {es : List Expr} {fa fb fc : FnE} {pos : Pos}
theorem fe_of {t : TE} {f : FnE} (h : PE X e t) (w : ∀ σ H Q ρ, Envs X.K H σ ρ → Out X H (f ρ) Q → t σ H Q) : FE X e f :=
  ⟨fun pins s σ H Q I ⟨ρ, E, o⟩ => h pins s σ H Q I (w σ H Q ρ E o)⟩
theorem ft_of {t : TT} {f : FnB} (h : PT X e t) (w : ∀ σ H Q ρ, Envs X.K H σ ρ → OutB X H (f ρ) Q → t σ H Q) : FT X e f :=
  ⟨fun pins s σ H Q I ⟨ρ, E, o⟩ => h pins s σ H Q I (w σ H Q ρ E o)⟩
theorem fw_of {t : TT} {f : FnB} (h : PW X e t) (w : ∀ σ H Q ρ, Envs X.K H σ ρ → OutB X H (f ρ) Q → t σ H Q) : FW X e f :=
  ⟨fun wh pins s σ H Q I ⟨ρ, E, o⟩ => h wh pins s σ H Q I (w σ H Q ρ E o)⟩
theorem fs_of {st : Stmt} {t : TS} {f : FnS} (h : PS X st t) (w : ∀ D σ H ρ, Envs X.K H σ ρ → OutS X H (f ρ) D → t D σ H) : FS X st f :=
  ⟨fun pins s σ H D I ⟨ρ, E, o⟩ => h pins s σ H D I (w D σ H ρ E o)⟩
theorem fss_of {st : List Stmt} {t : TS} {f : FnS} (h : PSs X st t) (w : ∀ D σ H ρ, Envs X.K H σ ρ → OutS X H (f ρ) D → t D σ H) : FSs X st f :=
  ⟨fun pins s σ H D I ⟨ρ, E, o⟩ => h pins s σ H D I (w D σ H ρ E o)⟩
theorem FW.ft {f : FnB} (h : FW X e f) : FT X e f := ⟨h.h _⟩
def fVar (i : Nat) : FnE := fun ρ => match ρ[i]? with
  | some (some d) => some (.ok d)
  | _ => none
def fC (d : Dv) : FnE := fun _ => some (.ok d)
theorem fe_pv (i : Nat) (h : PE X e (tVar i)) : FE X e (fVar i) := fe_of h fun σ H Q ρ E o => by
  unfold fVar at o
  split at o
  · rename_i d hd
    obtain ⟨v, h1, h2⟩ := E.at' i d hd
    exact ⟨v, h1, o v H (.refl H) h2⟩
  · exact o.elim
theorem glb {x : Str} (h : X.env.kindOf x = some .globalImplicit) : Gl X x := h
theorem fe_lv (i : Nat) {x : Str} (hN : X.N[i]? = some x := by kernel_rfl) (hv : X.env.scope.names.lookup x = some .local := by kernel_rfl) (hd : (x == ("__debug__" : Str)) = false := by kernel_rfl) (hcd : (x == ("__classdict__" : Str)) = false := by kernel_rfl) : FE X (.Name x pos) (fVar i) := fe_pv i (pe_var hN (.inl hv) hd hcd)
theorem fe_cv (i : Nat) {x : Str} (hN : X.N[i]? = some x := by kernel_rfl) (hv : X.env.scope.names.lookup x = some .cell := by kernel_rfl) (hd : (x == ("__debug__" : Str)) = false := by kernel_rfl) (hcd : (x == ("__classdict__" : Str)) = false := by kernel_rfl) : FE X (.Name x pos) (fVar i) := fe_pv i (pe_var hN (.inr (.inl hv)) hd hcd)
theorem fe_c {d : Dv} {v : V} (h : PE X e (tC v)) (r : ∀ K H, Rep K H d v) : FE X e (fC d) := fe_of h fun _ H _ _ _ o => o v H (.refl H) (r X.K H)
theorem fe_int {i j} : FE X (.Constant (.int i) j pos) (fC (.int i)) := fe_c pe_int fun _ _ => rfl
theorem fe_bl {b j} : FE X (.Constant (.bool b) j pos) (fC (.bl b)) := fe_c pe_bl fun _ _ => rfl
theorem fe_non {j} : FE X (.Constant .none j pos) (fC .non) := fe_c pe_non fun _ _ => rfl
theorem fe_str {x j} : FE X (.Constant (.str x) j pos) (fC (.str x)) := fe_c pe_str fun _ _ => rfl
theorem fe_gint {x : Str} {i : Int} {t : Tok} (hg : Gl X x) (hm : X.mg x = some (.int i t)) (hd : (x == ("__debug__" : Str)) = false := by kernel_rfl) : FE X (.Name x pos) (fC (.int i)) := fe_c (pe_glob (v := .int i) hg hm ⟨t, rfl⟩ hd) fun _ _ => rfl
theorem fe_gstr {x : Str} {i : Str} {t : Tok} (hg : Gl X x) (hm : X.mg x = some (.str i t)) (hd : (x == ("__debug__" : Str)) = false := by kernel_rfl) : FE X (.Name x pos) (fC (.str i)) := fe_c (pe_glob (v := .str i) hg hm ⟨t, rfl⟩ hd) fun _ _ => rfl
def f2 (g : Dv → Dv → Option (Rs Dv)) (fa fb : FnE) : FnE := fun ρ => bnd (fa ρ) fun x => bnd (fb ρ) fun y => g x y
def GOp (X : Cx) (r : R2) (g : Dv → Dv → Option (Rs Dv)) : Prop := ∀ dx dy x y H Q, Rep X.K H dx x → Rep X.K H dy y → Out X H (g dx dy) Q → r x y H Q
theorem two {r : R2} {g : Dv → Dv → Option (Rs Dv)} (hg : GOp X r g) {σ : L2.St} {H : Hp} {Q : VK} {ρ : Ev} (E : Envs X.K H σ ρ) (o : Out X H (f2 g fa fb ρ) Q) : tOp r (tF X fa) (tF X fb) σ H Q :=
  ⟨ρ, E, Out.bind o fun dx x H1 e1 rx o1 => ⟨ρ, E.mono e1, Out.bind o1 fun dy y H2 e2 ry o2 => hg dx dy x y H2 Q (Rep.mono e2 dx x rx) ry o2⟩⟩
theorem fe_op {op : Operator} {r : R2} {g : Dv → Dv → Option (Rs Dv)} (ho : OpR X (binaryOp op) r) (hg : GOp X r g) (ha : FE X a fa) (hb : FE X b fb) : FE X (.BinOp a op b pos) (f2 g fa fb) :=
  fe_of (pe_op ho ha.h hb.h) fun _ _ _ _ E o => two hg E o
theorem fe_cmp {op : CmpOp} {r : R2} {g : Dv → Dv → Option (Rs Dv)} (ho : OpR X (compareOp op) r) (hg : GOp X r g) (ha : FE X a fa) (hb : FE X b fb) (hm : behindInMarks op b = false) : FE X (.Compare a [op] [b] pos) (f2 g fa fb) :=
  fe_of (pe_cmpR ho ha.h hb.h hm) fun _ _ _ _ E o => two hg E o
def toB : Dv → Option (Rs Bool)
  | .bl b => some (.ok b)
  | _ => none
def fB (f : FnE) : FnB := fun ρ => bnd (f ρ) toB
theorem outB_toB {H : Hp} {d : Dv} {v : V} {QB : Bool → Hp → Prop} (r : Rep X.K H d v) (o : OutB X H (toB d) QB) : ∃ k, v = .bl k ∧ QB k H := by
  cases d with
  | bl b => exact ⟨b, r, o H (.refl H)⟩
  | _ => exact o.elim
theorem ft_cmp {op : CmpOp} {r : R2} {g : Dv → Dv → Option (Rs Dv)} (ho : OpR X (compareOp op) r) (hg : GOp X r g) (ha : FE X a fa) (hb : FE X b fb) (hm : behindInMarks op b = false) : FT X (.Compare a [op] [b] pos) (fB (f2 g fa fb)) :=
  ft_of (pt_cmpR ho ha.h hb.h hm) fun σ H Q ρ E o => by
    show tOp r (tF X fa) (tF X fb) σ H _
    refine two hg E ?_
    exact Out.bindB o fun d v H' e r o' => outB_toB r o'
theorem ft_val (ha : FE X a fa) (he : ∀ whole, isTrue a X.env whole = (do let v ← whole; standAt a.pos; holding [v] (truthy v)) := by intro _; kernel_rfl) : FT X a (fB fa) :=
  ft_of (pt_val ha.h he) fun σ H Q ρ E o => ⟨ρ, E, Out.bindB o fun d v H' e r o' => outB_toB r o'⟩
def bAnd (f g : FnB) : FnB := fun ρ => bnd (f ρ) fun k => if k then g ρ else some (.ok false)
def bOr (f g : FnB) : FnB := fun ρ => bnd (f ρ) fun k => if k then some (.ok true) else g ρ
def bNot (f : FnB) : FnB := fun ρ => bnd (f ρ) fun k => some (.ok (!k))
variable {ga gb : FnB} {rest : List Expr}
theorem fw_and1 (ha : FT X a ga) : FW X (.BoolOp .And [a] pos) ga := ⟨pw_and1 ha.h⟩
theorem fw_or1 (ha : FT X a ga) : FW X (.BoolOp .Or [a] pos) ga := ⟨pw_or1 ha.h⟩
theorem fw_and (ha : FT X a ga) (hb : FW X (.BoolOp .And (b :: rest) pos) gb) : FW X (.BoolOp .And (a :: b :: rest) pos) (bAnd ga gb) :=
  fw_of (pw_and ha.h hb.h) fun σ H Q ρ E o => ⟨ρ, E, OutB.bindB o fun k H1 e o' => by
    cases k with
    | true => exact iteT ⟨ρ, E.mono e, o'⟩
    | false => exact iteF (o' H1 (.refl H1))⟩
theorem fw_or (ha : FT X a ga) (hb : FW X (.BoolOp .Or (b :: rest) pos) gb) : FW X (.BoolOp .Or (a :: b :: rest) pos) (bOr ga gb) :=
  fw_of (pw_or ha.h hb.h) fun σ H Q ρ E o => ⟨ρ, E, OutB.bindB o fun k H1 e o' => by
    cases k with
    | true => exact iteT (o' H1 (.refl H1))
    | false => exact iteF ⟨ρ, E.mono e, o'⟩⟩
theorem ft_not (ha : FT X a ga) : FT X (.UnaryOp .Not a pos) (bNot ga) :=
  ft_of (pt_not ha.h) fun σ H Q ρ E o => ⟨ρ, E, OutB.bindB o fun k H1 e o' => o' H1 (.refl H1)⟩
def vAnd (f g : FnE) : FnE := fun ρ => bnd (f ρ) fun x => bnd (toB x) fun k => if k then g ρ else some (.ok (.bl false))
def vOr (f g : FnE) : FnE := fun ρ => bnd (f ρ) fun x => bnd (toB x) fun k => if k then some (.ok (.bl true)) else g ρ
def vNot (f : FnE) : FnE := fun ρ => bnd (f ρ) fun x => bnd (toB x) fun k => some (.ok (.bl (!k)))
theorem out_toB {H : Hp} {d : Dv} {v : V} {k : Bool → Option (Rs Dv)} {Q : VK} (r : Rep X.K H d v) (o : Out X H (bnd (toB d) k) Q) : ∃ b, v = .bl b ∧ Out X H (k b) Q := by
  cases d with
  | bl b => exact ⟨b, r, o⟩
  | _ => exact o.elim
theorem fe_one {op} (ha : FE X a fa) : FE X (.BoolOp op [a] pos) fa := ⟨pe_one ha.h⟩
theorem fe_and (ha : FE X a fa) (hb : FE X (.BoolOp .And (b :: rest) pos) fb) : FE X (.BoolOp .And (a :: b :: rest) pos) (vAnd fa fb) :=
  fe_of (pe_and ha.h hb.h) fun σ H Q ρ E o => ⟨ρ, E, Out.bind o fun d v H1 e r o' => by
    obtain ⟨k, rfl, o2⟩ := out_toB r o'
    refine ⟨k, rfl, ?_⟩
    cases k with
    | true => exact iteT ⟨ρ, E.mono e, o2⟩
    | false => exact iteF (o2 (.bl false) H1 (.refl H1) rfl)⟩
theorem fe_not (ha : FE X a fa) : FE X (.UnaryOp .Not a pos) (vNot fa) :=
  fe_of (pe_not ha.h) fun σ H Q ρ E o => ⟨ρ, E, Out.bind o fun d v H1 e r o' => by
    obtain ⟨k, rfl, o2⟩ := out_toB r o'
    exact ⟨k, rfl, o2 (.bl (!k)) H1 (.refl H1) rfl⟩⟩
def fIf (c : FnB) (f g : FnE) : FnE := fun ρ => bnd (c ρ) fun k => if k then f ρ else g ρ
theorem fe_if (hc : FT X c ga) (ha : FE X a fa) (hb : FE X b fb) : FE X (.IfExp c a b pos) (fIf ga fa fb) :=
  fe_of (pe_ifExp hc.h ha.h hb.h) fun σ H Q ρ E o => ⟨ρ, E, OutB.bind o fun k H1 e o' => by
    cases k with
    | true => exact iteT ⟨ρ, E.mono e, o'⟩
    | false => exact iteF ⟨ρ, E.mono e, o'⟩⟩
def aNil : FnA := fun _ => some (.ok [])
def aCons (f : FnE) (g : FnA) : FnA := fun ρ => bnd (f ρ) fun x => bnd (g ρ) fun xs => some (.ok (x :: xs))
theorem fa_of {t : TA} {f : FnA} (h : PA X es t) (w : ∀ σ H Q ρ, Envs X.K H σ ρ → OutA X H (f ρ) Q → t σ H Q) : FA X es f :=
  ⟨fun pos pins s σ H Q I ⟨ρ, E, o⟩ => h pos pins s σ H Q I (w σ H Q ρ E o)⟩
theorem fa_nil : FA X [] aNil := fa_of pa_nil fun _ H _ _ _ o => o [] H (.refl H) rfl
theorem fa_cons {g : FnA} (ha : FE X e fa) (hr : FA X es g) (hs : starEach (e :: es) X.env = (false, eval e X.env) :: starEach es X.env := by kernel_rfl) : FA X (e :: es) (aCons fa g) :=
  fa_of (pa_cons ha.h hr.h hs) fun σ H Q ρ E o => ⟨ρ, E, Out.bindA o fun d v H1 e r o1 => ⟨ρ, E.mono e, OutA.bindA o1 fun ds vs H2 e2 rs o2 => o2 (v :: vs) H2 (.refl H2) ⟨v, vs, rfl, Rep.mono e2 d v r, rs⟩⟩⟩
def fLst (g : FnA) : FnE := fun ρ => bnd (g ρ) fun ds => if ds.length ≤ 100000 then some (.ok (.lst ds)) else none
def fTup (g : FnA) : FnE := fun ρ => bnd (g ρ) fun ds => if ds.length ≤ 100000 then some (.ok (.tup ds)) else none
theorem le_line {n : Nat} (h : n ≤ 100000) : n ≤ sizeLine := Nat.le_trans h (by rw [sizeLine_eq]; decide)
theorem fe_lst {g : FnA} (h : FA X es g) : FE X (.List es pos) (fLst g) :=
  fe_of (pe_lst h.h) fun σ H Q ρ E o => ⟨ρ, E, OutA.bind o fun ds vs H1 e rs o1 => by
    split at o1
    · rename_i hl
      refine ⟨by rw [rs.length]; exact le_line hl, fun p hp => o1 (.ref p) _ (same_new hp _) ⟨p, vs, rfl, upd_same, Reps.mono (same_new hp _) _ _ rs⟩⟩
    · exact o1.elim⟩
theorem fe_tup {g : FnA} {k} (h : FA X es g) : FE X (.Tuple es k pos) (fTup g) :=
  fe_of (pe_tup h.h) fun σ H Q ρ E o => ⟨ρ, E, OutA.bind o fun ds vs H1 e rs o1 => by
    split at o1
    · rename_i hl
      refine ⟨by rw [rs.length]; exact le_line hl, fun p hp => o1 (.ref p) _ (same_new hp _) ⟨p, vs, rfl, upd_same, Reps.mono (same_new hp _) _ _ rs⟩⟩
    · exact o1.elim⟩
variable {st : Stmt} {sts : List Stmt} {f g : FnS}
theorem fss_nil : FSs X [] (fun ρ => some (.nx ρ)) := fss_of pss_nil fun D σ H ρ E o => o σ H (.refl H) E
def fSeq (f g : FnS) : FnS := fun ρ => sq (f ρ) g
theorem fss_cons (h1 : FS X st f) (h2 : FSs X sts g) : FSs X (st :: sts) (fSeq f g) :=
  fss_of (pss_cons h1.h h2.h) fun D σ H ρ E o => ⟨ρ, E, by
    unfold fSeq at o
    match hf : f ρ with
    | none => rw [hf] at o; exact o.elim
    | some (.exc c) => rw [hf] at o; exact o
    | some (.rt d) => rw [hf] at o; exact o
    | some (.nx ρ') => rw [hf] at o; exact fun σ' H' e E' => ⟨ρ', E', OutS.mono e o⟩⟩
theorem fss_one (h1 : FS X st f) : FSs X [st] f := ⟨pss_one h1.h⟩
def fRet (f : FnE) : FnS := fun ρ => bndS (f ρ) fun d => some (.rt d)
theorem fs_ret (he : FE X e fa) : FS X (.Return (some e) pos) (fRet fa) :=
  fs_of (ps_ret he.h) fun D σ H ρ E o => ⟨ρ, E, Out.bindS o fun d v H1 e r o1 => o1 v H1 (.refl H1) r⟩
def fRetN : FnS := fun _ => some (.rt .non)
def fDrop (f : FnE) : FnS := fun ρ => bndS (f ρ) fun _ => some (.nx ρ)
theorem fs_expr (he : FE X e fa) (hs : swapsWith e none pos.line X.env = pure false := by kernel_rfl) : FS X (.Expr e pos) (fDrop fa) :=
  fs_of (ps_expr he.h hs) fun D σ H ρ E o => ⟨ρ, E, Out.bindS o fun d v H1 e r o1 => o1 σ H1 (.refl H1) (E.mono e)⟩
def fSet (i : Nat) (f : FnE) : FnS := fun ρ => bndS (f ρ) fun d => some (.nx (ρ.set i (some d)))
theorem fs_set (i : Nat) {x : Str} {pos' : Pos} (hN : X.N.Nodup) (hi : X.N[i]? = some x) (hx : Loc X.env.scope x) (he : FE X e fa) (hs : swapsWith e (some (.Name x pos')) pos.line X.env = pure false := by kernel_rfl) (hf : X.fn x = true ∨ X.env.scope.names.lookup x = some .local := by first | exact .inl rfl | exact .inr rfl | assumption) :
    FS X (.Assign [.Name x pos'] e pos) (fSet i fa) :=
  fs_of (ps_set hN hi hx he.h hs hf) fun D σ H ρ E o => ⟨ρ, E, Out.bindS o fun d v H1 e r o1 => o1 _ H1 (.refl H1) ((E.mono e).set r)⟩
def fIfS (c : FnB) (f g : FnS) : FnS := fun ρ => bndS (c ρ) fun k => if k then f ρ else g ρ
theorem fs_if {as bs : List Stmt} (hc : FT X c ga) (ha : FSs X as f) (hb : FSs X bs g) : FS X (.If c as bs pos) (fIfS ga f g) :=
  fs_of (ps_if hc.h ha.h hb.h) fun D σ H ρ E o => ⟨ρ, E, OutB.bindS o fun k H1 e o1 => by
    cases k with
    | true => exact iteT ⟨ρ, E.mono e, o1⟩
    | false => exact iteF ⟨ρ, E.mono e, o1⟩⟩
def fNever : FnS := fun _ => none
end
end FD
namespace FD
open PySem PySem.Spec PyProof.Rows L2
def Its (z : Str) : It := ⟨fun i _ => i < z.cps.size, fun i H x H' => H' = H ∧ ∃ c, z.cps[i]? = some c ∧ x = .str ⟨#[c]⟩, fun i _ => i = z.cps.size⟩
theorem walks_str {prog : Program} {w : World} {A : Around} (hh : A.handled = none) (I : Addr) (x : Str) (t : Tok) {ty : String} (hty : ty = "str_ascii_iterator" ∨ ty = "str_iterator") :
    Walks prog w A I [I] [I] x.cps.size (SignAt x) (fun i h => h.IsStrIter I ty x t i) := by
  rcases hty with rfl | rfl
  · exact Walks.strAscii hh I x t
  · exact Walks.strWide hh I x t
theorem turn_str {P : Program} {w : World} {K : PySem.W.Frag} {tg : Expr} (z : Str) (t : Tok) (it : Addr) {ty : String} (hty : ty = "str_ascii_iterator" ∨ ty = "str_iterator") : Turn P w K tg (Its z) [it] it (fun i h => h.IsStrIter it ty z t i) where
  mem := by simp
  obj := fun i h st b hb => by
    have e : b = it := by simpa using hb
    subst e
    obtain ⟨o, e, c, d⟩ := st
    exact ⟨o, e, fun v z => by rw [d] at z; cases z⟩
  keep := fun i h h' st k => let ⟨o, ho, r⟩ := st; ⟨o, k it (by simp) o ho, r⟩
  item := by
    intro X hP hw hK hc i pins s σ H E I hf st hg
    subst hP hw hK
    obtain ⟨f0, f1, f2, f3, f4, f5⟩ := hf it (by simp)
    have W := walks_str (prog := X.prog) (w := X.w) (I.ok.hd hc) it z t hty
    refine W.item i s _ _ hg st fun v h' tk hv st' kk => ?_
    obtain ⟨c, u, hc', rfl⟩ := hv
    have I1 : Inv X pins σ H { s with heap := h', toks := tk } := I.turned (fun b o hb e => kk b o (by simpa using hb) e) f0 f1 f3 f4 f5
    obtain ⟨o, e, c', d⟩ := id st'
    refine ⟨_, rfl, go_of (s := { s with heap := h', toks := tk }) e c' d (by rcases hty with rfl | rfl <;> decide) ⟨.str ⟨#[c]⟩, H, I1, ⟨u, rfl⟩, ⟨rfl, c, hc', rfl⟩, st', fun b hb => (hf b hb).1⟩⟩
  done := by
    intro X hP hw hK hc i pins s σ H E I hf st hg
    subst hP hw hK
    obtain ⟨f0, f1, f2, f3, f4, f5⟩ := hf it (by simp)
    have W := walks_str (prog := X.prog) (w := X.w) (I.ok.hd hc) it z t hty
    have hg' : i = z.cps.size := hg
    subst hg'
    exact W.done s _ _ st fun h' tk kk => ⟨rfl, I.turned (fun b o hb e => kk b o (by simpa using hb) e) f0 f1 f3 f4 f5⟩
  self := fun A i s Q E st h => by
    rcases hty with rfl | rfl
    · exact wpAny_pyIter_striter_ascii st h
    · exact wpAny_pyIter_striter_wide st h
structure Wk (K : PySem.W.Frag) (J : It) (ds : List Dv) (H0 : Hp) : Prop where
  go : ∀ i H, Same H0 H → i < ds.length → J.go i H
  stop : ∀ H, Same H0 H → J.stop ds.length H
  yld : ∀ i H x H', Same H0 H → i < ds.length → J.yld i H x H' → H' = H ∧ ∃ d, ds[i]? = some d ∧ Rep K H d x
def OutI (X : Cx) (H : Hp) (o : Option (Rs (List Dv))) (R : It → Hp → Prop) : Prop := match o with
  | none => False
  | some (.exc c) => XW X c H
  | some (.ok ds) => ∀ J H', Same H H' → Wk X.K J ds H' → R J H'
structure FI (X : Cx) (tg iter : Expr) (f : FnA) : Prop where
  h : PI X tg iter fun σ H R => ∃ ρ, Envs X.K H σ ρ ∧ OutI X H (f ρ) R
theorem OutI.mono {X : Cx} {H H' : Hp} {R : It → Hp → Prop} (e : Same H H') : ∀ {o : Option (Rs (List Dv))}, OutI X H o R → OutI X H' o R
  | none, h => h
  | some (.exc _), h => XW.mono h e
  | some (.ok _), h => fun v H1 e1 r => h v H1 (e.trans e1) r
def signs (z : Str) : List Dv := z.cps.toList.map fun c => .str ⟨#[c]⟩
def items : Dv → Option (Rs (List Dv))
  | .lst ds => some (.ok ds)
  | .tup ds => some (.ok ds)
  | .str z => some (.ok (signs z))
  | _ => none
def iSeq (f : FnE) : FnA := fun ρ => bnd (f ρ) items
theorem wk_list {K : PySem.W.Frag} {H : Hp} {a : Addr} {xs : List V} {ds : List Dv} (h : H a = some (.lst xs)) (r : Reps K H ds xs) : Wk K (Itl K a) ds H where
  go := fun i H' e hi => by
    have hx : i < xs.length := by rw [r.length]; exact hi
    exact ⟨xs, xs[i], SqL.of (e _ _ h), by simp [hx]⟩
  stop := fun H' e => ⟨xs, SqL.of (e _ _ h), by rw [r.length]; exact Nat.le_refl _⟩
  yld := fun i H' x H2 e hi y => by
    obtain ⟨e2, y⟩ := y
    obtain ⟨d, h1, h2⟩ := Reps.get (Reps.mono e _ _ r) (y xs (SqL.of (e _ _ h)))
    exact ⟨e2, d, h1, h2⟩
theorem wk_tup {K : PySem.W.Frag} {H : Hp} {a : Addr} {xs : List V} {ds : List Dv} (h : H a = some (.tup xs)) (r : Reps K H ds xs) : Wk K (Itt K a) ds H where
  go := fun i H' e hi => by
    have hx : i < xs.length := by rw [r.length]; exact hi
    exact ⟨xs, xs[i], SqT.of (e _ _ h), by simp [hx]⟩
  stop := fun H' e => ⟨xs, SqT.of (e _ _ h), by rw [r.length]; exact Nat.le_refl _⟩
  yld := fun i H' x H2 e hi y => by
    obtain ⟨e2, y⟩ := y
    obtain ⟨d, h1, h2⟩ := Reps.get (Reps.mono e _ _ r) (y xs (SqT.of (e _ _ h)))
    exact ⟨e2, d, h1, h2⟩
theorem wk_str {K : PySem.W.Frag} {H : Hp} {z : Str} : Wk K (Its z) (signs z) H where
  go := fun i H' e hi => by show i < z.cps.size; simpa [signs] using hi
  stop := fun H' e => by show (signs z).length = z.cps.size; simp [signs]
  yld := fun i H' x H2 e hi y => by
    obtain ⟨e2, c, hc, rfl⟩ := y
    refine ⟨e2, .str ⟨#[c]⟩, ?_, rfl⟩
    have hc' : z.cps.toList[i]? = some c := by simpa using hc
    rw [signs, List.getElem?_map, hc'] <;> rfl
def rng (lo : Int) : Nat → List Dv
  | 0 => []
  | n + 1 => .int lo :: rng (lo + 1) n
theorem rng_length : ∀ (n : Nat) (lo : Int), (rng lo n).length = n
  | 0, _ => rfl
  | n + 1, lo => by show (rng (lo + 1) n).length + 1 = n + 1; rw [rng_length]
theorem rng_get : ∀ (n : Nat) (lo : Int) (i : Nat), i < n → (rng lo n)[i]? = some (.int (lo + i))
  | 0, _, _, h => by omega
  | n + 1, lo, 0, _ => by simp [rng]
  | n + 1, lo, i + 1, h => by
    have q := rng_get n (lo + 1) i (by omega)
    show (Dv.int lo :: rng (lo + 1) n)[i + 1]? = _
    rw [List.getElem?_cons_succ, q]
    congr 2
    omega
theorem wk_range {K : PySem.W.Frag} {H : Hp} {lo : Int} {n : Nat} : Wk K (Itr lo n) (rng lo n) H where
  go := fun i H' e hi => by rw [rng_length] at hi; exact hi
  stop := fun H' e => by show n ≤ (rng lo n).length; rw [rng_length]; exact Nat.le_refl _
  yld := fun i H' x H2 e hi y => by
    obtain ⟨e2, rfl⟩ := y
    rw [rng_length] at hi
    exact ⟨e2, _, rng_get n lo i hi, rfl⟩
section
variable {X : Cx} {tg l a b : Expr} {fl : FnE} {pos p : Pos}
theorem fi_seq (hl : FE X l fl) : FI X tg l (iSeq fl) := by
  constructor
  intro pins s σ H R I h
  obtain ⟨ρ, E, o⟩ := h
  have key : Out X H (fl ρ) fun x H1 => ∃ d, Rep X.K H1 d x ∧ OutI X H1 (items d) R := by
    unfold iSeq at o
    match hf : fl ρ, o with
    | some (.exc c), o => exact o
    | some (.ok d), o => exact fun v H1 e r => ⟨d, r, OutI.mono e o⟩
    | none, o => exact o
  refine thn (hl.h pins s σ H _ I ⟨ρ, E, key⟩) fun v s1 ⟨x, H1, I1, r1, d, rd, q⟩ => ?_
  have fin : ∀ (o : Obj) (tn : Nat → Heap → Prop) (J : It) (ds : List Dv), Turn X.prog X.w X.K tg J [s1.heap.objs.size] s1.heap.objs.size tn → tn 0 (s1.heap.push o) → Wk X.K J ds H1 → (∀ J H', Same H1 H' → Wk X.K J ds H' → R J H') →
      PIE X pins σ tg R (.ref s1.heap.objs.size) { s1 with heap := s1.heap.push o } := fun o tn J ds T t0 w q => by
    refine ⟨s1.heap.objs.size, [s1.heap.objs.size], tn, J, H1, rfl, I1.kept (t' := s1.toks) fun b o e => Heap.get?_push_of_some _ e, T, t0, fun b hb => ?_, q J H1 (.refl H1) w⟩
    have e : b = s1.heap.objs.size := by simpa using hb
    subst e
    exact I1.fpOk (Nat.le_refl _) (I1.hok.fresh (Nat.le_refl _))
  cases d with
  | lst ds =>
    obtain ⟨a, xs, rfl, h1, h2⟩ := rd.lstE
    cases r1
    obtain ⟨its, rv, p, hz⟩ := I1.list (SqL.of h1)
    exact wpAny_pyIter_list p.isList (fin _ _ (Itl X.K a) ds (turn_list a _) ⟨_, Heap.get?_push_size _ rfl, rfl, rfl⟩ (wk_list h1 h2) q)
  | tup ds =>
    obtain ⟨a, xs, rfl, h1, h2⟩ := rd.tupE
    cases r1
    obtain ⟨its, rv, p, hz⟩ := I1.tuple (SqT.of h1)
    exact wpAny_pyIter_tuple (show s1.heap.IsTuple a its.toArray from p) (fin _ _ (Itt X.K a) ds (turn_tuple a _) ⟨_, Heap.get?_push_size _ rfl, rfl, rfl⟩ (wk_tup h1 h2) q)
  | str z =>
    cases (show x = .str z from rd)
    obtain ⟨t, rfl⟩ := r1
    have hty : strIterType z = "str_ascii_iterator" ∨ strIterType z = "str_iterator" := by
      unfold strIterType
      split
      · exact .inl rfl
      · exact .inr rfl
    exact wpAny_pyIter_strU (fin _ _ (Its z) (signs z) (turn_str z t _ hty) ⟨_, Heap.get?_push_size _ rfl, rfl, rfl⟩ wk_str q)
  | _ => exact q.elim
def rng1 : List Dv → Option (Rs (List Dv))
  | [.int j] => if -(2 ^ 62) ≤ j ∧ j < 2 ^ 62 then some (.ok (rng 0 j.toNat)) else none
  | _ => none
def rng2 : List Dv → Option (Rs (List Dv))
  | [.int i, .int j] => if -(2 ^ 62) ≤ i ∧ i < 2 ^ 62 ∧ -(2 ^ 62) ≤ j ∧ j < 2 ^ 62 then some (.ok (rng i (j - i).toNat)) else none
  | _ => none
theorem outA_bindI {H : Hp} {R : It → Hp → Prop} {o : Option (Rs (List Dv))} {k : List Dv → Option (Rs (List Dv))} {P : List V → Hp → Prop} (h : OutI X H (bnd o k) R) (hp : ∀ ds vs H', Same H H' → Reps X.K H' ds vs → OutI X H' (k ds) R → P vs H') : OutA X H o P := by
  match o, h with
  | some (.exc _), h => exact h
  | some (.ok d), h => exact fun v H1 e r => hp d v H1 e r (OutI.mono e h)
theorem fi_range1 {ga : FnA} (hg : Gl X "range") (hm : X.mg "range" = none) (ha : FA X [a] ga) (hs : starEach [a] X.env = [(false, eval a X.env)] := by kernel_rfl) : FI X tg (.Call (.Name "range" p) [a] [] pos) (fun ρ => bnd (ga ρ) rng1) := by
  constructor
  intro pins s σ H R I h
  obtain ⟨ρ, E, o⟩ := h
  refine pi_range1 hg hm ha.h hs pins s σ H R I ⟨ρ, E, outA_bindI o fun ds vs H' e rs o1 => ?_⟩
  unfold rng1 at o1
  split at o1
  · rename_i j
    split at o1
    · rename_i hj
      obtain ⟨v, us, rfl, r, t⟩ : ∃ v us, vs = v :: us ∧ Rep X.K H' (.int j) v ∧ Reps X.K H' [] us := rs
      cases (show us = [] from t)
      cases (show v = .int j from r)
      exact ⟨j, rfl, hj.1, hj.2, o1 _ H' (.refl H') wk_range⟩
    · exact o1.elim
  · exact o1.elim
theorem fi_range2 {ga : FnA} (hg : Gl X "range") (hm : X.mg "range" = none) (ha : FA X [a, b] ga) (hs : starEach [a, b] X.env = [(false, eval a X.env), (false, eval b X.env)] := by kernel_rfl) (hs2 : starEach [b] X.env = [(false, eval b X.env)] := by kernel_rfl) :
    FI X tg (.Call (.Name "range" p) [a, b] [] pos) (fun ρ => bnd (ga ρ) rng2) := by
  constructor
  intro pins s σ H R I h
  obtain ⟨ρ, E, o⟩ := h
  refine pi_range2 hg hm ha.h hs hs2 pins s σ H R I ⟨ρ, E, outA_bindI o fun ds vs H' e rs o1 => ?_⟩
  unfold rng2 at o1
  split at o1
  · rename_i i j
    split at o1
    · rename_i hj
      obtain ⟨v, us, rfl, r, t⟩ : ∃ v us, vs = v :: us ∧ Rep X.K H' (.int i) v ∧ Reps X.K H' [.int j] us := rs
      obtain ⟨v2, us2, rfl, r2, t2⟩ : ∃ v us', us = v :: us' ∧ Rep X.K H' (.int j) v ∧ Reps X.K H' [] us' := t
      cases (show us2 = [] from t2)
      cases (show v = .int i from r)
      cases (show v2 = .int j from r2)
      exact ⟨i, j, rfl, hj, o1 _ H' (.refl H') wk_range⟩
    · exact o1.elim
  · exact o1.elim
end
def loopF (i : Nat) (js : List Nat) (body : FnS) : List Dv → Ev → Option Fl
  | [], ρ => some (.nx (fgt js ρ))
  | d :: ds, ρ => match body ((fgt js ρ).set i (some d)) with
    | some (.nx ρ') => loopF i js body ds ρ'
    | o => o
def fFor (i : Nat) (js : List Nat) (src : FnA) (body : FnS) : FnS := fun ρ => bndS (src ρ) fun ds => loopF i js body ds ρ
theorem drop_cons {α : Type} {ds : List α} {i : Nat} {d : α} (h : ds[i]? = some d) : ds.drop i = d :: ds.drop (i + 1) := by
  obtain ⟨hi, e⟩ := List.getElem?_eq_some_iff.mp h
  rw [List.drop_eq_getElem_cons hi, e]
theorem fs_for {X : Cx} {tg iter : Expr} {body : List Stmt} {pos : Pos} {src : FnA} {fb : FnS} (i : Nat) (js : List Nat) (hp : PassesOwn (model X.prog X.w) X.A X.env X.xe) (hc : X.calm = true) (hi : FI X tg iter src) (hg : PG X tg (gName i)) (hb : FSs X body fb)
    (hs : ∀ x, foldedSetIterable iter X.env x = pure x := by intro _; kernel_rfl) : FS X (.For tg iter body [] pos) (fFor i js src fb) := by
  refine fs_of (ps_for hp hc hi.h hg hb.h hs) fun D σ H ρ E o => ⟨ρ, E, ?_⟩
  unfold fFor at o
  match hf : src ρ, o with
  | none, o => exact o
  | some (.exc c), o => exact o
  | some (.ok ds), o =>
    intro J H1 e1 wk
    have o1 : OutS X H1 (loopF i js fb ds ρ) D := OutS.mono e1 o
    refine ⟨fun n m σ' H' => m = ds.length - n ∧ n ≤ ds.length ∧ Same H1 H' ∧ ∃ ρ', Envs X.K H' σ' ρ' ∧ OutS X H' (loopF i js fb (ds.drop n) ρ') D, ⟨ds.length, by simp, Nat.zero_le _, .refl H1, ρ, E.mono e1, by simpa using o1⟩, ?_⟩
    rintro n m σ' H' ⟨rfl, hn, e2, ρ', E', o'⟩
    by_cases hlt : n < ds.length
    · refine .inr ⟨wk.go n H' e2 hlt, fun σ2 H2 => Same H1 H2 ∧ ∃ ρ2, Envs X.K H2 σ2 ρ2 ∧ OutS X H2 (loopF i js fb (ds.drop (n + 1)) ρ2) D, fun σ2 H2 ⟨e3, ρ2, E2, o2⟩ => ⟨ds.length - (n + 1), by omega, rfl, hlt, e3, ρ2, E2, o2⟩, fun x H2 y => ?_⟩
      obtain ⟨rfl, d, hd, rd⟩ := wk.yld n H' x H2 e2 hlt y
      rw [drop_cons hd] at o'
      show tS X fb _ _ _
      refine ⟨(fgt js ρ').set i (some d), (Envs.fgt js E').set rd, ?_⟩
      unfold loopF at o'
      match hb' : fb ((fgt js ρ').set i (some d)) with
      | none => rw [hb'] at o'; exact o'
      | some (.exc c) => rw [hb'] at o'; exact o'
      | some (.rt r) => rw [hb'] at o'; exact o'
      | some (.nx ρ2) => rw [hb'] at o'; exact fun σ2 H3 e3 E3 => ⟨e2.trans e3, ρ2, E3, OutS.mono e3 o'⟩
    · have hn' : n = ds.length := by omega
      subst hn'
      rw [List.drop_length] at o'
      exact .inl ⟨wk.stop H' e2, o' σ' H' (.refl H') (Envs.fgt js E')⟩
def spF (K : PySem.W.Frag) (F : List Dv → Option (Rs Dv)) (n : Nat) : Sp := fun vs H Q _ => ∃ ds, Reps K H ds vs ∧ ds.length = n ∧ match F ds with
  | some (.ok d) => ∀ v H', Same H H' → Rep K H' d v → Q v H'
  | _ => False
def fCall (F : List Dv → Option (Rs Dv)) (n : Nat) (g : FnA) : FnE := fun ρ => bnd (g ρ) fun ds => if ds.length = n then (match F ds with | some (.ok d) => some (.ok d) | _ => none) else none
section
variable {X : Cx} {k n : Nat} {f : Addr} {fd : FuncData} {ps : List Str} {x : Str} {p pos : Pos} {e : Expr} {es : List Expr} {F : List Dv → Option (Rs Dv)} {g : FnA}
theorem fe_call (G : FnOk X.prog X.w X.K X.mg X.base CX0 k f fd ps (spF X.K F n)) (hr : Room k X.A) (hg : Gl X x) (hm : X.mg x = some (.ref f)) (hk : PySem.W.keepIn X.K (.ref f) = true) (hb : Binds X.K fd ps [])
    (ha : FA X (e :: es) g) (hdb : (x == ("__debug__" : Str)) = false := by kernel_rfl) (he : starEach (e :: es) X.env = (false, eval e X.env) :: starEach es X.env := by kernel_rfl) (hpl : (backTo pos (starEach es X.env)).any (·.1) = false := by kernel_rfl) :
    FE X (.Call (.Name x p) (e :: es) [] pos) (fCall F n g) :=
  fe_of (pe_call G hr hg hm hk hb .nil pass0 ha.h hdb he hpl) fun σ H Q ρ E o => ⟨ρ, E, OutA.bind o fun ds vs H' e rs o1 => by
    show spF X.K F n (vs ++ []) H' Q E0
    rw [List.append_nil]
    split at o1
    · rename_i hl
      refine ⟨ds, rs, hl, ?_⟩
      match hF : F ds with
      | some (.ok d) => rw [hF] at o1; exact o1
      | some (.exc c) => rw [hF] at o1; exact o1
      | none => rw [hF] at o1; exact o1
    · exact o1.elim⟩
def Has (P : Program) (w : World) (K : PySem.W.Frag) (mg : Str → Option Value) (base : Heap) (x : Str) (k : Nat) (ps : List Str) (F : List Dv → Option (Rs Dv)) : Prop :=
  ∃ f fd, FnOk P w K mg base CX0 k f fd ps (spF K F ps.length) ∧ mg x = some (.ref f) ∧ PySem.W.keepIn K (.ref f) = true ∧ Binds K fd ps []
theorem fe_callH {k' : Nat} (k : Nat) (ps : List Str) (F : List Dv → Option (Rs Dv)) (h : Has X.prog X.w X.K X.mg X.base x k ps F) (hr : Room k' X.A) (hk : k ≤ k') (hg : Gl X x) (ha : FA X (e :: es) g) (hn : n = ps.length := by kernel_rfl) (hdb : (x == ("__debug__" : Str)) = false := by kernel_rfl)
    (he : starEach (e :: es) X.env = (false, eval e X.env) :: starEach es X.env := by kernel_rfl) (hpl : (backTo pos (starEach es X.env)).any (·.1) = false := by kernel_rfl) :
    FE X (.Call (.Name x p) (e :: es) [] pos) (fCall F n g) := by
  subst hn
  obtain ⟨f, fd, G, hm, hkp, hb⟩ := h
  exact fe_call (G.mono hk) hr hg hm hkp hb ha hdb he hpl
def runF (m : Nat) (fb : FnS) : List Dv → Option (Rs Dv) := fun ds => match fb (ds.map some ++ List.replicate (m - ds.length) none) with
  | some (.nx _) => some (.ok .non)
  | some (.rt d) => some (.ok d)
  | _ => none
theorem envs_start {K : PySem.W.Frag} {H : Hp} {N : List Str} {ds : List Dv} {vs : List V} (r : Reps K H ds vs) : Envs K H (L2.start N vs) (ds.map some ++ List.replicate (N.length - ds.length) none) := by
  have hl := r.length
  refine ⟨by unfold L2.start; rw [List.length_append, List.length_append, List.length_map, List.length_map, List.length_replicate, List.length_replicate, hl], fun i d h => ?_⟩
  by_cases hi : i < ds.length
  · rw [List.getElem?_append_left (by simpa using hi), List.getElem?_map] at h
    cases hd : ds[i]? with
    | none => rw [hd] at h; cases h
    | some d' =>
      rw [hd] at h
      have h' : some (some d') = some (some d) := h
      injection h' with h'
      injection h' with h'
      subst h'
      obtain ⟨v, h1, h2⟩ := r.get' hd
      refine ⟨v, ?_, h2⟩
      unfold L2.start
      rw [List.getElem?_append_left (by rw [List.length_map, hl]; exact hi), List.getElem?_map, h1] <;> rfl
  · rw [List.getElem?_append_right (by simpa using hi), List.getElem?_replicate] at h
    split at h <;> cases h
theorem fn_ok {P : Program} {w : World} {K : PySem.W.Frag} {mg : Str → Option Value} {base : Heap} {qual : Str} {st : Stmt} {N : List Str} {fb : FnS} (Fn : Fun K x qual st f fd) (S : FnScope N ps (defScope st))
    (hb : ∀ (cdv : Value) (A : Around) (outer : List Env) (s : Shared) (H : Hp) (E : XK), Room k (A.deeper (envOfC qual (defScope st) s.heap.objs.size f cdv)) → FSs (cxOf CX0 P w K mg base N qual (defScope st) f cdv A outer s H E).nox (defBody st) fb) :
    FnOk P w K mg base CX0 (k + 1) f fd ps (spF K (runF N.length fb) ps.length) := by
  refine Fn.ok S (fun vs H Q E h => ?_) (fun cdv A outer s H vs Q E hr h => ?_)
  · obtain ⟨ds, r, hl, _⟩ := h
    rw [r.length, hl]
  · obtain ⟨ds, r, hl, q⟩ := h
    refine ⟨_, (hb cdv A outer s H E hr).h, ds.map some ++ List.replicate (N.length - ds.length) none, envs_start r, ?_⟩
    unfold runF at q
    match hf : fb (ds.map some ++ List.replicate (N.length - ds.length) none) with
    | none => rw [hf] at q; exact q.elim
    | some (.exc c) => rw [hf] at q; exact q.elim
    | some (.rt d) => rw [hf] at q; exact fun v H' e r' => q v H' e r'
    | some (.nx ρ) => rw [hf] at q; exact fun σ' H' e _ => q .non H' e rfl
end
theorem fn_ok2 {k : Nat} {f : Addr} {fd : FuncData} {x : Str} {P : Program} {w : World} {K : PySem.W.Frag} {mg : Str → Option Value} {base : Heap} {qual : Str} {st : Stmt} {F : List Dv → Option (Rs Dv)} {n : Nat} (N ps : List Str) (fb : FnS) (hF : F = runF N.length fb) (hn : n = ps.length)
    (Fn : Fun K x qual st f fd) (S : FnScope N ps (defScope st))
    (hb : ∀ (cdv : Value) (A : Around) (outer : List Env) (s : Shared) (H : Hp) (E : XK), Room k (A.deeper (envOfC qual (defScope st) s.heap.objs.size f cdv)) → FSs (cxOf CX0 P w K mg base N qual (defScope st) f cdv A outer s H E).nox (defBody st) fb) :
    FnOk P w K mg base CX0 (k + 1) f fd ps (spF K F n) := by
  subst hF hn
  exact fn_ok Fn S hb
end FD
namespace FD
open PySem PySem.Spec PyProof.Rows L2
def clOf (names : List (Str × NameKind)) (env : Env) (acc : List (Str × Addr)) : List (Str × Addr) := match names with
  | [] => acc
  | (n, k) :: r => clOf r env (if k == .free then (n, (env.cells.lookup n).getD 0) :: acc else acc)
theorem clOf_sound {env : Env} {n : Str} {c : Addr} : ∀ (names : List (Str × NameKind)) (acc : List (Str × Addr)), (clOf names env acc).lookup n = some c → acc.lookup n = some c ∨ ((n, NameKind.free) ∈ names ∧ c = (env.cells.lookup n).getD 0)
  | [], acc, h => .inl h
  | (m, k) :: r, acc, h => by
    rcases clOf_sound r _ h with q | ⟨q1, q2⟩
    · by_cases hk : k = .free
      · subst hk
        simp only [beq_self_eq_true, if_true] at q
        rw [List.lookup_cons] at q
        cases hm : n == m with
        | true =>
          rw [hm] at q
          have e : n = m := by simpa using hm
          subst e
          exact .inr ⟨List.mem_cons_self, (Option.some.inj q).symm⟩
        | false => rw [hm] at q; exact .inl q
      · have hb : (k == NameKind.free) = false := by simpa using hk
        rw [hb] at q
        exact .inl (by simpa using q)
    · exact .inr ⟨List.mem_cons_of_mem _ q1, q2⟩
theorem clOf_keep {env : Env} {n : Str} : ∀ (names : List (Str × NameKind)) (acc : List (Str × Addr)), (acc.lookup n).isSome = true → ((clOf names env acc).lookup n).isSome = true
  | [], acc, h => h
  | (m, k) :: r, acc, h => by
    refine clOf_keep r _ ?_
    split
    · rw [List.lookup_cons]
      cases n == m with
      | true => rfl
      | false => exact h
    · exact h
theorem clOf_has {env : Env} {n : Str} : ∀ (names : List (Str × NameKind)) (acc : List (Str × Addr)), (n, NameKind.free) ∈ names → ((clOf names env acc).lookup n).isSome = true
  | [], acc, h => by cases h
  | (m, k) :: r, acc, h => by
    rcases List.mem_cons.mp h with e | q
    · injection e with e1 e2
      subst e1
      subst e2
      refine clOf_keep r _ ?_
      simp only [beq_self_eq_true, if_true, List.lookup_cons]
      rfl
    · exact clOf_has r _ q
theorem lookup_mem {β : Type} {n : Str} {k : β} : ∀ {l : List (Str × β)}, l.lookup n = some k → (n, k) ∈ l
  | [], h => by simp at h
  | (m, j) :: r, h => by
    rw [List.lookup_cons] at h
    cases hm : n == m with
    | true =>
      rw [hm] at h
      have e : n = m := by simpa using hm
      subst e
      have e2 : j = k := Option.some.inj h
      subst e2
      exact List.mem_cons_self
    | false => rw [hm] at h; exact List.mem_cons_of_mem _ (lookup_mem h)
def compCx (X : Cx) (N : List Str) (scope : Scope) (C : Addr) (s : Shared) (H : Hp) (fp : List Addr) : Cx :=
  { X with N := N, s₀ := s, H₀ := H, env := compEnvC scope (clOf scope.names X.env []) C X.env, outer := X.stack, stack := X.stack, ex := fp, fn := fun _ => false, pn := [], xe := fun _ _ => False }
structure CompOk (osc scope : Scope) (x : Str) (cs : List (Str × Nat)) (N : List Str) : Prop where
  kind : scope.kind = .function
  okind : osc.kind = .function
  cell : ∀ y ∈ scope.names, y.2 ≠ .cell
  names : ∀ y ∈ scope.names, y.2 = .local → scope.names.lookup y.1 = some .local
  tgt : scope.names.lookup x = some .local
  nd : (x :: cs.map (·.1)).Nodup
  free : ∀ y ∈ scope.names, y.2 = .free → osc.names.lookup y.1 = some .cell ∨ osc.names.lookup y.1 = some .free
  caps : ∀ c ∈ cs, N[c.2]? = some c.1 ∧ scope.names.lookup c.1 = some .free
theorem relabel_kind {scope : Scope} {env : Env} {n : Str} {k : NameKind} (h : (relabel scope env).names.lookup n = some k) : (n, k) ∈ scope.names ∨ (k = .cell ∧ (n, NameKind.free) ∈ scope.names) := by
  have q := lookup_mem h
  unfold relabel at q
  obtain ⟨⟨m, j⟩, hm, e⟩ := List.mem_map.mp q
  dsimp only at e
  split at e
  · rename_i hc
    injection e with e1 e2
    subst e1
    have hj : j = .free := by
      rw [Bool.and_eq_true, Bool.and_eq_true] at hc
      simpa using hc.1.1
    subst hj
    exact .inr ⟨e2.symm, hm⟩
  · injection e with e1 e2
    subst e1
    subst e2
    exact .inl hm
theorem relabel_free {env : Env} : ∀ {names : List (Str × NameKind)} {n : Str}, names.lookup n = some .free →
    (names.map fun (n, k) => if (k == NameKind.free && env.scope.kind == .function && env.kindOf n == some .cell) then (n, NameKind.cell) else (n, k)).lookup n = some .cell ∨
    (names.map fun (n, k) => if (k == NameKind.free && env.scope.kind == .function && env.kindOf n == some .cell) then (n, NameKind.cell) else (n, k)).lookup n = some .free
  | [], _, h => by simp at h
  | (m, k) :: r, n, h => by
    have ih := @relabel_free env r n
    rw [List.lookup_cons] at h
    rw [List.map_cons]
    cases hm : n == m with
    | true =>
      rw [hm] at h
      have e2 : k = .free := Option.some.inj h
      subst e2
      by_cases hc : (NameKind.free == NameKind.free && env.scope.kind == .function && env.kindOf m == some .cell) = true
      · dsimp only
        rw [if_pos hc, List.lookup_cons, hm]
        exact .inl rfl
      · dsimp only
        rw [if_neg hc, List.lookup_cons, hm]
        exact .inr rfl
    | false =>
      rw [hm] at h
      dsimp only
      by_cases hc : (k == NameKind.free && env.scope.kind == .function && env.kindOf m == some .cell) = true
      · rw [if_pos hc, List.lookup_cons, hm]; exact ih h
      · rw [if_neg hc, List.lookup_cons, hm]; exact ih h
def capE (cs : List (Str × Nat)) (ρ : Ev) : Ev := none :: cs.map fun c => (ρ[c.2]?).join
section
variable {X : Cx} {pins : List (Addr × Obj)} {σ : L2.St} {H : Hp} {s : Shared}
end
def mapF (tst : Option FnB) (elt : FnE) (cap : Ev) : List Dv → Option (List Dv)
  | [] => some []
  | d :: ds =>
    let ρ := cap.set 0 (some d)
    match (match tst with | none => (some (.ok true) : Option (Rs Bool)) | some t => t ρ) with
    | some (.ok true) => (match elt ρ with
      | some (.ok y) => (match mapF tst elt cap ds with | some ys => some (y :: ys) | none => none)
      | _ => none)
    | some (.ok false) => mapF tst elt cap ds
    | _ => none
def fComp (cs : List (Str × Nat)) (src : FnA) (tst : Option FnB) (elt : FnE) : FnE := fun ρ => bnd (src ρ) fun ds => match mapF tst elt (capE cs ρ) ds with
  | some ys => if ys.length ≤ 100000 ∧ ds.length ≤ 100000 then some (.ok (.lst ys)) else none
  | none => none
def LAt (h : Heap) (D : Addr) (its : List Value) : Prop := ∃ n, h.get? D = some { cls := .type "list", data := .seq its.toArray n }
theorem lat_append {P : Program} {w : World} {A : Around} {E : Value → Shared → Prop} {s : Shared} {D : Addr} {its : List Value} {u : Value} {Q : Value → Shared → Prop} (h : LAt s.heap D its) (hz : its.length ≤ 100000)
    (hQ : ∀ h', LAt h' D (its ++ [u]) → (∀ b o, b ≠ D → s.heap.get? b = some o → h'.get? b = some o) → Q .none { s with heap := h' }) : wpAny (model P w) A (call (.builtin "list.append") [.ref D, u]) Q E s := by
  obtain ⟨n, e⟩ := h
  refine call_meets F.slot_list_append ⟨_, e, rfl⟩ F.entry_list_append (F.args_list_append_2 _ _) (PySem.list_append D its.toArray n u (by rw [List.size_toArray]; exact le_line hz)) ⟨e, ?_⟩
  have q := PySem.IsL.update e (·.push u)
  have e2 : its.toArray.push u = (its ++ [u]).toArray := by simp
  rw [e2] at q
  exact hQ _ ⟨_, q⟩ fun b o hb ho => (Heap.get?_update_other s.heap _ (Ne.symm hb)).trans ho
def FIfs (X : Cx) (ifs : List Expr) (tst : Option FnB) : Prop := match tst with
  | none => ifs = []
  | some t => ∃ c, ifs = [c] ∧ FT X c t
theorem HOk.add {P : Program} {w : World} {H : Hp} {h h' : Heap} {D C : Addr} {o : HO} (x : HOk P w H h) (hD : H D = none) (hC : H C = none) (k : ∀ b u, b ≠ C → h.get? b = some u → h'.get? b = some u) (new : ObjOk P w (upd H D o) h' D o) : HOk P w (upd H D o) h' := fun b u e => by
  by_cases hb : b = D
  · subst hb; rw [upd_same] at e; cases e; exact new
  · rw [upd_ne hb] at e
    refine (x b u e).stay (fun c v hc q => k c v ?_ q) (fun c q => by rw [upd_ne (ne_of_none q hD)]; exact q) fun c xs q => by rw [upd_ne (ne_of_none q hD)]; exact q
    rcases hc with rfl | hc
    · exact ne_of_none e hC
    · exact ne_of_none hc hC
theorem ad_ne {b D : Nat} (h : b < D) : b ≠ D := by omega
theorem ad_ne1 {b D : Nat} (h : b < D) : b ≠ D + 1 := by omega
theorem ad_s {D : Nat} : D ≠ D + 1 := by omega
end FD
namespace FD
open PySem PySem.Spec PyProof.Rows L2
section
variable {X : Cx}
def addD : Dv → Dv → Option (Rs Dv)
  | .int i, .int j => some (.ok (.int (i + j)))
  | .str x, .str y => if x.length + y.length ≤ 100000 then some (.ok (.str (x ++ y))) else none
  | .lst a, .lst b => if a.length + b.length ≤ 100000 then some (.ok (.lst (a ++ b))) else none
  | _, _ => none
def rAdd3 : R2 := fun x y H Q => rI0 (fun i j => .int (i + j)) x y H Q ∨ ((∃ i j, x = .str i ∧ y = .str j ∧ i.length + j.length ≤ sizeLine ∧ Q (.str (i ++ j)) H) ∨ rCat x y H Q)
theorem o_add : OpR X (binaryOp .Add) rAdd3 := op_add.or (op_add_str.or op_cat)
theorem g_add : GOp X rAdd3 addD := by
  intro dx dy x y H Q rx ry o
  cases dx <;> cases dy <;> try exact (show False from o).elim
  · rename_i i j
    exact .inl ⟨i, j, rx, ry, o _ H (.refl H) rfl⟩
  · rename_i i j
    simp only [addD] at o
    split at o
    · rename_i hl
      exact .inr (.inl ⟨i, j, rx, ry, le_line hl, o _ H (.refl H) rfl⟩)
    · exact o.elim
  · rename_i a b
    simp only [addD] at o
    split at o
    · rename_i hl
      obtain ⟨p, xs, rfl, h1, q1⟩ := rx.lstE
      obtain ⟨p2, xs2, rfl, h2, q2⟩ := ry.lstE
      refine .inr (.inr ⟨p, p2, xs, xs2, rfl, rfl, h1, h2, by rw [q1.length, q2.length]; exact le_line hl, fun l hl => o _ _ (same_new hl _) ⟨l, _, rfl, upd_same, Reps.mono (same_new hl _) _ _ (q1.append q2)⟩⟩)
    · exact o.elim
def subD : Dv → Dv → Option (Rs Dv)
  | .int i, .int j => some (.ok (.int (i - j)))
  | _, _ => none
theorem g_sub : GOp X (rI0 fun i j => .int (i - j)) subD := by
  intro dx dy x y H Q rx ry o
  cases dx <;> cases dy <;> try exact (show False from o).elim
  rename_i i j
  exact ⟨i, j, rx, ry, o _ H (.refl H) rfl⟩
def mulD : Dv → Dv → Option (Rs Dv)
  | .int i, .int j => if (-18446744073709551616 < i ∧ i < 18446744073709551616) ∨ (-18446744073709551616 < j ∧ j < 18446744073709551616) then some (.ok (.int (i * j))) else none
  | _, _ => none
theorem g_mul : GOp X (rI CMul fun i j => .int (i * j)) mulD := by
  intro dx dy x y H Q rx ry o
  cases dx <;> cases dy <;> try exact (show False from o).elim
  rename_i i j
  simp only [mulD] at o
  split at o
  · rename_i h
    exact ⟨i, j, rx, ry, h, o _ H (.refl H) rfl⟩
  · exact o.elim
def modD : Dv → Dv → Option (Rs Dv)
  | .int i, .int j => if 0 < j then some (.ok (.int (i % j))) else none
  | _, _ => none
theorem g_mod : GOp X (rI (fun _ j => 0 < j) fun i j => .int (i % j)) modD := by
  intro dx dy x y H Q rx ry o
  cases dx <;> cases dy <;> try exact (show False from o).elim
  rename_i i j
  simp only [modD] at o
  split at o
  · rename_i h
    exact ⟨i, j, rx, ry, h, o _ H (.refl H) rfl⟩
  · exact o.elim
def fdivD : Dv → Dv → Option (Rs Dv)
  | .int i, .int j => if 0 < j ∧ j < 1073741824 then some (.ok (.int (i / j))) else none
  | _, _ => none
theorem g_fdiv : GOp X (rI CDiv fun i j => .int (i / j)) fdivD := by
  intro dx dy x y H Q rx ry o
  cases dx <;> cases dy <;> try exact (show False from o).elim
  rename_i i j
  simp only [fdivD] at o
  split at o
  · rename_i h
    exact ⟨i, j, rx, ry, h, o _ H (.refl H) rfl⟩
  · exact o.elim
def negD : Dv → Option (Rs Dv)
  | .int i => some (.ok (.int (-i)))
  | _ => none
def f1 (g : Dv → Option (Rs Dv)) (fa : FnE) : FnE := fun ρ => bnd (fa ρ) g
theorem fe_neg {a : Expr} {fa : FnE} {pos : Pos} (ha : FE X a fa) : FE X (.UnaryOp .USub a pos) (f1 negD fa) :=
  fe_of (pe_un un_neg ha.h) fun σ H Q ρ E o => ⟨ρ, E, Out.bind o fun d v H1 e r o1 => by
    cases d <;> try exact (show False from o1).elim
    rename_i i
    exact ⟨i, r, o1 _ H1 (.refl H1) rfl⟩⟩
def seq (x y : Str) : Bool := x.cps.toList == y.cps.toList
theorem seq_eq (x y : Str) : (x == y) = seq x y := by
  rw [Bool.eq_iff_iff]
  unfold seq
  obtain ⟨⟨a⟩⟩ := x
  obtain ⟨⟨b⟩⟩ := y
  simp
def eqS : Dv → Dv → Option Bool
  | .non, .non => some true
  | .non, .int _ => some false
  | .int _, .non => some false
  | .non, .bl _ => some false
  | .bl _, .non => some false
  | .non, .str _ => some false
  | .str _, .non => some false
  | .int i, .int j => some (i == j)
  | .bl i, .bl j => some (i == j)
  | .str i, .str j => some (seq i j)
  | .int _, .str _ => some false
  | .str _, .int _ => some false
  | .bl _, .str _ => some false
  | .str _, .bl _ => some false
  | _, _ => none
theorem eqS_ok {K : PySem.W.Frag} {H : Hp} {dx dy : Dv} {x y : V} {b : Bool} (rx : Rep K H dx x) (ry : Rep K H dy y) (h : eqS dx dy = some b) : scal x y = true ∧ decide (x = y) = b := by
  cases dx <;> cases dy <;> (try cases h) <;> (try (cases rx; cases ry; exact ⟨rfl, by first | rfl | exact dec_int | exact dec_bl | (rw [dec_str, seq_eq]) | simp⟩))
def cmpD (p : Int → Int → Bool) : Dv → Dv → Option (Rs Dv)
  | .int i, .int j => some (.ok (.bl (p i j)))
  | _, _ => none
theorem g_cmp (p : Int → Int → Bool) : GOp X (rI0 fun i j => .bl (p i j)) (cmpD p) := by
  intro dx dy x y H Q rx ry o
  cases dx <;> cases dy <;> try exact (show False from o).elim
  rename_i i j
  exact ⟨i, j, rx, ry, o _ H (.refl H) rfl⟩
abbrev gtD := cmpD fun i j => decide (j < i)
def isN : Dv → Dv → Option (Rs Dv)
  | x, .non => some (.ok (.bl (match x with | .non => true | _ => false)))
  | _, _ => none
def notN : Dv → Dv → Option (Rs Dv)
  | x, .non => some (.ok (.bl (match x with | .non => false | _ => true)))
  | _, _ => none
def inS (x y : Str) : Bool := !(Builtin.Str.occurrences y x 0 y.length 1).isEmpty
def flatD : Dv → Bool
  | .non => true
  | .bl _ => true
  | .int _ => true
  | .str _ => true
  | _ => false
def eqF : Dv → Dv → Bool
  | .non, .non => true
  | .bl a, .bl b => a == b
  | .bl a, .int b => (if a then 1 else 0) == b
  | .int a, .bl b => a == (if b then 1 else 0)
  | .int a, .int b => a == b
  | .str a, .str b => seq a b
  | _, _ => false
def inL (x : Dv) (ys : List Dv) : Option Bool := if flatD x && ys.all flatD then some (ys.any fun y => eqF y x) else none
def inD0 : Dv → Dv → Option Bool
  | .str x, .str y => some (inS x y)
  | x, .lst ys => inL x ys
  | x, .tup ys => inL x ys
  | _, _ => none
def inD (x y : Dv) : Option (Rs Dv) := match inD0 x y with
  | some b => some (.ok (.bl b))
  | none => none
theorem flat_ok {K : PySem.W.Frag} {H : Hp} {d : Dv} {v : V} (r : Rep K H d v) (h : flatD d = true) : flatV v = true := by
  cases d <;> first | (cases h; done) | (cases r; rfl)
theorem flats_ok {K : PySem.W.Frag} {H : Hp} : ∀ {ds : List Dv} {vs : List V}, Reps K H ds vs → ds.all flatD = true → vs.all flatV = true
  | [], vs, r, _ => by cases (show vs = [] from r); rfl
  | d :: ds, vs, r, h => by
    obtain ⟨v, us, rfl, r1, r2⟩ : ∃ v us, vs = v :: us ∧ Rep K H d v ∧ Reps K H ds us := r
    rw [List.all_cons, Bool.and_eq_true] at h
    rw [List.all_cons, Bool.and_eq_true]
    exact ⟨flat_ok r1 h.1, flats_ok r2 h.2⟩
theorem eqF_ok {K : PySem.W.Frag} {H : Hp} {d e : Dv} {v u : V} (r : Rep K H d v) (q : Rep K H e u) (h : flatD d = true) (h' : flatD e = true) : eqV v u = eqF d e := by
  cases d <;> first | (cases h; done) | (cases r; cases e <;> first | (cases h'; done) | (cases q; first | rfl | exact seq_eq _ _))
theorem any_ok {K : PySem.W.Frag} {H : Hp} {e : Dv} {u : V} (q : Rep K H e u) (h' : flatD e = true) : ∀ {ds : List Dv} {vs : List V}, Reps K H ds vs → ds.all flatD = true → (vs.any fun y => eqV y u) = ds.any fun y => eqF y e
  | [], vs, r, _ => by cases (show vs = [] from r); rfl
  | d :: ds, vs, r, h => by
    obtain ⟨v, us, rfl, r1, r2⟩ : ∃ v us, vs = v :: us ∧ Rep K H d v ∧ Reps K H ds us := r
    rw [List.all_cons, Bool.and_eq_true] at h
    rw [List.any_cons, List.any_cons, eqF_ok r1 q h.1 h', any_ok q h' r2 h.2]
theorem inL_ok {K : PySem.W.Frag} {H : Hp} {dx : Dv} {ys : List Dv} {x : V} {vs : List V} {b : Bool} (rx : Rep K H dx x) (ry : Reps K H ys vs) (h : inL dx ys = some b) : flatV x = true ∧ vs.all flatV = true ∧ inV x vs = b := by
  unfold inL at h
  split at h
  · rename_i hc
    rw [Bool.and_eq_true] at hc
    cases h
    exact ⟨flat_ok rx hc.1, flats_ok ry hc.2, any_ok rx hc.1 ry hc.2⟩
  · cases h
def rIn2 (K : PySem.W.Frag) : R2 := fun x y H Q => (∃ i j, x = .str i ∧ y = .str j ∧ Q (.bl (!(Builtin.Str.occurrences j i 0 j.length 1).isEmpty)) H) ∨ rIn K false x y H Q
theorem o_in : OpR X (compareOp .In) (rIn2 X.K) := op_in_str.or op_in_seq
theorem g_in : GOp X (rIn2 X.K) inD := by
  intro dx dy x y H Q rx ry o
  unfold inD at o
  split at o
  · rename_i b hb
    have q := o _ H (.refl H) rfl
    cases dy <;> try (cases dx <;> cases hb; done)
    · rename_i z
      cases dx <;> try (cases hb; done)
      rename_i z'
      cases hb
      exact .inl ⟨z', z, rx, ry, q⟩
    · rename_i ys
      have hb' : inL dx ys = some b := by cases dx <;> exact hb
      obtain ⟨a, vs, rfl, h1, h2⟩ := ry.tupE
      obtain ⟨f1, f2, f3⟩ := inL_ok rx h2 hb'
      exact .inr ⟨a, vs, rfl, .inr (SqT.of h1), f1, f2, by rw [if_neg Bool.false_ne_true, f3]; exact q⟩
    · rename_i ys
      have hb' : inL dx ys = some b := by cases dx <;> exact hb
      obtain ⟨a, vs, rfl, h1, h2⟩ := ry.lstE
      obtain ⟨f1, f2, f3⟩ := inL_ok rx h2 hb'
      exact .inr ⟨a, vs, rfl, .inl (SqL.of h1), f1, f2, by rw [if_neg Bool.false_ne_true, f3]; exact q⟩
  · exact o.elim
def atD {α : Type} (xs : List α) (i : Int) : Option α := if 0 ≤ i then xs[i.toNat]? else if -(xs.length : Int) ≤ i then xs[(i + xs.length).toNat]? else none
theorem atD_atI {α : Type} {xs : List α} {i : Int} {v : α} (h : atD xs i = some v) : atI xs i = some v := by
  unfold atD at h
  unfold atI ixN
  split at h
  · rename_i h0
    have hl : i.toNat < xs.length := by
      obtain ⟨q, _⟩ := List.getElem?_eq_some_iff.mp h
      exact q
    rw [if_pos h0, if_pos (by omega)]
    exact h
  · rename_i h0
    split at h
    · rename_i h1
      rw [if_neg h0, if_pos h1]
      exact h
    · cases h
def ixD : Dv → Dv → Option (Rs Dv)
  | .lst xs, .int i => (match atD xs i with | some d => some (.ok d) | none => none)
  | .tup xs, .int i => (match atD xs i with | some d => some (.ok d) | none => none)
  | .str z, .int i => if z.length ≤ 100000 then (match atD z.cps.toList i with | some c => some (.ok (.str ⟨#[c]⟩)) | none => none) else none
  | .scr ns, .int i => (match atD ns i with | some d => some (.ok (.int d)) | none => none)
  | _, _ => none
theorem atD_len {α β : Type} {xs : List α} {ys : List β} (h : ys.length = xs.length) {i : Int} {x : α} (e : atD xs i = some x) : ∃ j : Nat, xs[j]? = some x ∧ ∀ y, ys[j]? = some y → atD ys i = some y := by
  unfold atD at e
  split at e
  · rename_i h0
    exact ⟨_, e, fun y q => by unfold atD; rw [if_pos h0]; exact q⟩
  · rename_i h0
    split at e
    · rename_i h1
      exact ⟨_, e, fun y q => by unfold atD; rw [if_neg h0, h, if_pos h1]; exact q⟩
    · cases e
theorem g_ix : GOp X (rIx X.K) ixD := by
  intro dx dy x y H Q rx ry o
  cases dx <;> cases dy <;> try exact (show False from o).elim
  · rename_i z i
    simp only [ixD] at o
    split at o
    · rename_i hl
      split at o
      · rename_i c hc
        exact .inr (.inr ⟨z, i, c, rx, ry, le_line hl, atD_atI hc, o _ H (.refl H) rfl⟩)
      · exact o.elim
    · exact o.elim
  · rename_i ds i
    simp only [ixD] at o
    split at o
    · rename_i d hd
      obtain ⟨a, xs, rfl, h1, h2⟩ := rx.tupE
      obtain ⟨j, e1, e2⟩ := atD_len h2.length hd
      obtain ⟨v, e3, r3⟩ := h2.get' e1
      exact .inr (.inl ⟨a, xs, i, v, rfl, ry, SqT.of h1, atD_atI (e2 v e3), o v H (.refl H) r3⟩)
    · exact o.elim
  · rename_i ds i
    simp only [ixD] at o
    split at o
    · rename_i d hd
      obtain ⟨a, xs, rfl, h1, h2⟩ := rx.lstE
      obtain ⟨j, e1, e2⟩ := atD_len h2.length hd
      obtain ⟨v, e3, r3⟩ := h2.get' e1
      exact .inl ⟨a, xs, i, v, rfl, ry, SqL.of h1, atD_atI (e2 v e3), o v H (.refl H) r3⟩
    · exact o.elim
  · rename_i ns i
    simp only [ixD] at o
    split at o
    · rename_i d hd
      obtain ⟨a, rfl, h1⟩ := rx.scrE
      obtain ⟨j, e1, e2⟩ := atD_len (ys := ns.map V.int) (by simp) hd
      exact .inl ⟨a, _, i, .int d, rfl, ry, h1, atD_atI (e2 _ (by rw [List.getElem?_map, e1] <;> rfl)), o _ H (.refl H) rfl⟩
    · exact o.elim
theorem fe_ix {a b : Expr} {fa fb : FnE} {pos : Pos} (ha : FE X a fa) (hb : FE X b fb) (hs : PlainIx b := by intro _ _; kernel_rfl) : FE X (.Subscript a b pos) (f2 ixD fa fb) :=
  fe_of (pe_ix ix_seq ha.h hb.h hs) fun _ _ _ _ E o => two g_ix E o
abbrev FnO := Ev → Option (Rs (Option Int))
def OutO (X : Cx) (H : Hp) (o : Option (Rs (Option Int))) (Q : Option Int → Hp → Prop) : Prop := match o with
  | none => False
  | some (.exc c) => XW X c H
  | some (.ok d) => ∀ H', Same H H' → Q d H'
theorem OutO.mono {H H' : Hp} {Q : Option Int → Hp → Prop} (e : Same H H') : ∀ {o : Option (Rs (Option Int))}, OutO X H o Q → OutO X H' o Q
  | none, h => h
  | some (.exc _), h => XW.mono h e
  | some (.ok _), h => fun H1 e1 => h H1 (e.trans e1)
structure FO (X : Cx) (e : Option Expr) (f : FnO) : Prop where
  h : PO X e fun σ H Q => ∃ ρ, Envs X.K H σ ρ ∧ OutO X H (f ρ) Q
def oNone : FnO := fun _ => some (.ok none)
def toI : Dv → Option (Rs (Option Int))
  | .int i => some (.ok (some i))
  | _ => none
def oSome (f : FnE) : FnO := fun ρ => bnd (f ρ) toI
theorem fo_none : FO X none oNone := ⟨fun pins s σ H Q I ⟨_, _, o⟩ => po_none pins s σ H Q I (o H (.refl H))⟩
theorem fo_some {e : Expr} {fa : FnE} (h : FE X e fa) : FO X (some e) (oSome fa) := ⟨fun pins s σ H Q I ⟨ρ, E, o⟩ => po_some h.h pins s σ H Q I ⟨ρ, E, by
  unfold oSome at o
  match hf : fa ρ, o with
  | none, o => exact o
  | some (.exc c), o => exact o
  | some (.ok d), o =>
    intro v H' e r
    cases d <;> try exact (show False from o).elim
    rename_i i
    exact ⟨i, r, o H' e⟩⟩⟩
def cutL {α : Type} (xs : List α) (lo hi : Option Int) : List α := (xs.drop (HT.sIx xs.length 0 lo)).take (HT.sIx xs.length xs.length hi - HT.sIx xs.length 0 lo)
def rSlS : V → Option Int → Option Int → Hp → VK → Prop := fun x lo hi H Q => ∃ z, x = .str z ∧ z.length ≤ sizeLine ∧ Q (.str (Txt.slice z lo hi)) H
theorem sl_str : SlR X rSlS := by
  intro pins s σ H x v vl vu lo hi sl Q I rx hs pl pu q
  obtain ⟨z, rfl, hz, q⟩ := q
  obtain ⟨t, rfl⟩ := rx
  refine ⟨"str", _, F.slot_str_getitem.lookup, typeIs_str _ _ _, ?_⟩
  have fin : ∀ (t' : Tok) (k : Nat), EP X pins σ Q (.str (Txt.slice z lo hi) t') { s with toks := k } := fun t' k => ⟨.str (Txt.slice z lo hi), H, I.tok _, ⟨_, rfl⟩, q⟩
  cases pl with
  | none =>
    cases pu with
    | none => exact wpAny_getItem_str_slice (l := none) (u := none) (st := none) hs rfl (post_val_or_str ⟨Nat.le_trans (Txt.slice_le z _ _) hz, fun t' k => fin t' k⟩)
    | int j u => exact wpAny_getItem_str_slice (l := none) (u := some (j, u)) (st := none) hs rfl (post_val_or_str ⟨Nat.le_trans (Txt.slice_le z _ _) hz, fun t' k => fin t' k⟩)
  | int i u' =>
    cases pu with
    | none => exact wpAny_getItem_str_slice (l := some (i, u')) (u := none) (st := none) hs rfl (post_val_or_str ⟨Nat.le_trans (Txt.slice_le z _ _) hz, fun t' k => fin t' k⟩)
    | int j u => exact wpAny_getItem_str_slice (l := some (i, u')) (u := some (j, u)) (st := none) hs rfl (post_val_or_str ⟨Nat.le_trans (Txt.slice_le z _ _) hz, fun t' k => fin t' k⟩)
def cutD (x : Dv) (lo hi : Option Int) : Option (Rs Dv) := match x with
  | .str z => if z.length ≤ 100000 then some (.ok (.str (Txt.slice z lo hi))) else none
  | .lst xs => some (.ok (.lst (cutL xs lo hi)))
  | _ => none
def fCut (fa : FnE) (fl fh : FnO) : FnE := fun ρ => bnd (fa ρ) fun x => bnd (fl ρ) fun lo => bnd (fh ρ) fun hi => cutD x lo hi
theorem outO_bind {H : Hp} {Q : VK} {o : Option (Rs (Option Int))} {k : Option Int → Option (Rs Dv)} {P : Option Int → Hp → Prop} (h : Out X H (bnd o k) Q) (hp : ∀ b H', Same H H' → Out X H' (k b) Q → P b H') : OutO X H o P := by
  match o, h with
  | some (.exc _), h => exact h
  | some (.ok d), h => exact fun H1 e => hp d H1 e (Out.mono e h)
theorem fe_cut {a : Expr} {lo hi : Option Expr} {fa : FnE} {fl fh : FnO} {p2 pos : Pos} (ha : FE X a fa) (hl : FO X lo fl) (hh : FO X hi fh) : FE X (.Subscript a (.Slice lo hi none p2) pos) (fCut fa fl fh) :=
  fe_of (pe_slice (sl_str.or sl_list) ha.h hl.h hh.h) fun σ H Q ρ E o => ⟨ρ, E, Out.bind o fun d v H1 e1 r1 o1 => ⟨ρ, E.mono e1, outO_bind o1 fun l H2 e2 o2 => ⟨ρ, (E.mono e1).mono e2, outO_bind o2 fun u H3 e3 o3 => by
    have r3 := Rep.mono e3 d v (Rep.mono e2 d v r1)
    cases d <;> try exact (show False from o3).elim
    · rename_i z
      unfold cutD at o3
      dsimp only at o3
      split at o3
      · rename_i hz
        exact .inl ⟨z, r3, le_line hz, o3 _ H3 (.refl H3) rfl⟩
      · exact o3.elim
    · rename_i ds
      obtain ⟨a', xs, rfl, h1, h2⟩ := r3.lstE
      refine .inr ⟨a', xs, rfl, SqL.of h1, fun p hp => o3 _ _ (same_new hp _) ⟨p, _, rfl, upd_same, Reps.mono (same_new hp _) _ _ ?_⟩⟩
      unfold cutV cutL
      rw [h2.length]
      exact (h2.drop _).take _⟩⟩⟩
def lenD : List Dv → Option (Rs Dv)
  | [.str z] => if z.length ≤ 100000 then some (.ok (.int z.length)) else none
  | [.lst xs] => some (.ok (.int xs.length))
  | [.tup xs] => some (.ok (.int xs.length))
  | [.scr ns] => some (.ok (.int ns.length))
  | _ => none
def fB1 (g : List Dv → Option (Rs Dv)) (ga : FnA) : FnE := fun ρ => bnd (ga ρ) g
variable {x : Str} {p pos : Pos} {e : Expr} {es : List Expr} {ga : FnA}
theorem reps1 {K : PySem.W.Frag} {H : Hp} {d : Dv} {vs : List V} (r : Reps K H [d] vs) : ∃ v, vs = [v] ∧ Rep K H d v := by
  obtain ⟨v, us, rfl, r1, r2⟩ : ∃ v us, vs = v :: us ∧ Rep K H d v ∧ Reps K H [] us := r
  cases (show us = [] from r2)
  exact ⟨v, rfl, r1⟩
theorem reps2 {K : PySem.W.Frag} {H : Hp} {d d2 : Dv} {vs : List V} (r : Reps K H [d, d2] vs) : ∃ v v2, vs = [v, v2] ∧ Rep K H d v ∧ Rep K H d2 v2 := by
  obtain ⟨v, us, rfl, r1, r2⟩ : ∃ v us, vs = v :: us ∧ Rep K H d v ∧ Reps K H [d2] us := r
  obtain ⟨v2, rfl, r3⟩ := reps1 r2
  exact ⟨v, v2, rfl, r1, r3⟩
theorem fe_len (hg : Gl X "len") (hm : X.mg "len" = none) (ha : FA X (e :: es) ga) (he : starEach (e :: es) X.env = (false, eval e X.env) :: starEach es X.env := by kernel_rfl) (hpl : (backTo pos (starEach es X.env)).any (·.1) = false := by kernel_rfl) : FE X (.Call (.Name "len" p) (e :: es) [] pos) (fB1 lenD ga) :=
  fe_of (pe_callB call_len hg hm PySem.boot_len ha.h (by decide) (by decide) he hpl) fun σ H Q ρ E o => ⟨ρ, E, OutA.bind o fun ds vs H1 e1 rs o1 => by
    unfold lenD at o1
    split at o1
    · rename_i z
      split at o1
      · rename_i hz
        obtain ⟨v, rfl, r⟩ := reps1 rs
        cases (show v = .str z from r)
        exact ⟨_, _, rfl, ⟨le_line hz, rfl⟩, o1 _ H1 (.refl H1) rfl⟩
      · exact o1.elim
    · rename_i xs
      obtain ⟨v, rfl, r⟩ := reps1 rs
      obtain ⟨a, ws, rfl, h1, h2⟩ := r.lstE
      exact ⟨_, _, rfl, .inl ⟨ws, SqL.of h1, rfl⟩, o1 _ H1 (.refl H1) (by rw [h2.length]; rfl)⟩
    · rename_i xs
      obtain ⟨v, rfl, r⟩ := reps1 rs
      obtain ⟨a, ws, rfl, h1, h2⟩ := r.tupE
      exact ⟨_, _, rfl, .inr ⟨ws, SqT.of h1, rfl⟩, o1 _ H1 (.refl H1) (by rw [h2.length]; rfl)⟩
    · rename_i ns
      obtain ⟨v, rfl, r⟩ := reps1 rs
      obtain ⟨a, rfl, h1⟩ := r.scrE
      exact ⟨_, _, rfl, .inl ⟨_, h1, rfl⟩, o1 _ H1 (.refl H1) (by rw [List.length_map]; rfl)⟩
    · exact o1.elim⟩
def bools : List Dv → Option (List Bool)
  | [] => some []
  | .bl b :: r => (match bools r with | some bs => some (b :: bs) | none => none)
  | _ => none
def allD : List Dv → Option (Rs Dv)
  | [.lst xs] => (match bools xs with | some bs => some (.ok (.bl (bs.all id))) | none => none)
  | _ => none
theorem bools_ok {K : PySem.W.Frag} {H : Hp} : ∀ {ds : List Dv} {vs : List V} {us : List Value} {bs : List Bool}, Reps K H ds vs → Vals vs us → bools ds = some bs → us = bs.map Value.bool
  | [], vs, us, bs, r, q, h => by
    cases (show vs = [] from r)
    cases q
    cases h
    rfl
  | d :: ds, vs, us, bs, r, q, h => by
    obtain ⟨v, ws, rfl, r1, r2⟩ : ∃ v us, vs = v :: us ∧ Rep K H d v ∧ Reps K H ds us := r
    cases q with
    | cons q1 q2 =>
      cases d <;> try (cases h; done)
      rename_i b
      simp only [bools] at h
      cases hb : bools ds with
      | none => rw [hb] at h; cases h
      | some bs' =>
        rw [hb] at h
        cases h
        cases (show v = .bl b from r1)
        cases q1
        rw [bools_ok r2 q2 hb]
        rfl
theorem call_all : CallR X (.builtin "all") (fun xs H Q => ∃ a vs bs ds, xs = [.ref a] ∧ H a = some (.lst vs) ∧ Reps X.K H ds vs ∧ bools ds = some bs ∧ X.calm = true ∧ Q (.bl (bs.all id)) H) := by
  intro pins s σ H xs us Q I r h
  obtain ⟨a, vs, bs, ds, rfl, h1, h2, h3, hc, q⟩ := h
  obtain ⟨u, rfl, ru⟩ := vals1 r
  cases ru
  obtain ⟨z, its, n, rv, hl, e⟩ := I.lstM h1
  have eb := bools_ok h2 rv h3
  subst eb
  have hL : s.heap.IsList a (bs.map Value.bool).toArray := ⟨_, e, rfl, _, rfl⟩
  have hlt : a < s.heap.objs.size := Heap.lt_size e
  refine call_all_walk (wpAny_pyIter_list hL ?_)
  refine ⟨s.heap.objs.size, [s.heap.objs.size, a], [s.heap.objs.size], (bs.map Value.bool).toArray.size, _, _, fun i => (bs[i]?).getD true, rfl, Walks.list (A := X.A.in1) (I.ok.hd hc) _ a (Nat.ne_of_lt hlt) (bs.map Value.bool).toArray,
    ⟨⟨_, Heap.get?_push_size _ rfl, rfl, rfl⟩, hL.push _⟩, fun i v s' Q' E' hP hQ => ?_, fun h' tk hk => ?_⟩
  · have hP' : (bs.map Value.bool)[i]? = some v := by simpa using hP
    rw [List.getElem?_map] at hP'
    cases hb : bs[i]? with
    | none => rw [hb] at hP'; cases hP'
    | some b =>
      rw [hb] at hP'
      cases hP'
      have hQ2 : Q' ((bs[i]?).getD true) s' := hQ
      rw [hb] at hQ2
      exact wpAny_truthy_bool hQ2
  · have e2 : ((List.range (bs.map Value.bool).toArray.size).all fun i => (bs[i]?).getD true) = bs.all id := by
      rw [List.size_toArray, List.length_map]
      rw [Bool.eq_iff_iff]
      simp only [List.all_eq_true, List.mem_range, id]
      constructor
      · intro hh b hb
        obtain ⟨i, hi, rfl⟩ := List.mem_iff_getElem.mp hb
        simpa [hi] using hh i hi
      · intro hh i hi
        simp only [List.getElem?_eq_getElem hi, Option.getD_some]
        exact hh _ (List.getElem_mem hi)
    rw [e2]
    refine ⟨.bl _, H, I.kept fun b x eb => hk b x (fun hm => ?_) (Heap.get?_push_of_some _ eb), rfl, q⟩
    rw [List.mem_singleton.mp hm] at eb
    exact Nat.lt_irrefl _ (Heap.lt_size eb)
theorem fe_all (hc : X.calm = true) (hg : Gl X "all") (hm : X.mg "all" = none) (ha : FA X (e :: es) ga) (he : starEach (e :: es) X.env = (false, eval e X.env) :: starEach es X.env := by kernel_rfl) (hpl : (backTo pos (starEach es X.env)).any (·.1) = false := by kernel_rfl) : FE X (.Call (.Name "all" p) (e :: es) [] pos) (fB1 allD ga) :=
  fe_of (pe_callB call_all hg hm PyProof.Rows.boot_all ha.h (by decide) (by decide) he hpl) fun σ H Q ρ E o => ⟨ρ, E, OutA.bind o fun ds vs H1 e1 rs o1 => by
    unfold allD at o1
    split at o1
    · rename_i xs
      split at o1
      · rename_i bs hb
        obtain ⟨v, rfl, r⟩ := reps1 rs
        obtain ⟨a, ws, rfl, h1, h2⟩ := r.lstE
        exact ⟨a, ws, bs, xs, rfl, h1, h2, hb, hc, o1 _ H1 (.refl H1) rfl⟩
      · exact o1.elim
    · exact o1.elim⟩
def tyD : Dv → String
  | .non => "NoneType"
  | .bl _ => "bool"
  | .int _ => "int"
  | .str _ => "str"
  | .tup _ => "tuple"
  | .lst _ => "list"
  | .scr _ => "list"
  | .exn _ => "object"
end
end FD
namespace FD
open PySem PySem.Spec PyProof.Rows L2
section
variable {X : Cx} {p pos apos cpos pT : Pos} {e a o : Expr} {es : List Expr} {ga : FnA} {fa fo : FnE}
theorem tyOf_ok {K : PySem.W.Frag} {H : Hp} {d : Dv} {v : V} (r : Rep K H d v) (hs : ∀ ns, d ≠ .scr ns) (hx : ∀ c, d ≠ .exn c) : TyOf K H v (.type (tyD d)) := by
  cases d with
  | non => cases (show v = .non from r); exact .non
  | bl b => cases (show v = .bl b from r); exact .bl b
  | int b => cases (show v = .int b from r); exact .int b
  | str b => cases (show v = .str b from r); exact .str b
  | tup ds => obtain ⟨a, xs, rfl, h, _⟩ := r.tupE; exact .tup h
  | lst ds => obtain ⟨a, xs, rfl, h, _⟩ := r.lstE; exact .lst h
  | scr ns => exact absurd rfl (hs ns)
  | exn c => exact absurd rfl (hx c)
theorem call_isi (T : String) : CallR X (.builtin "isinstance") (fun xs H Q => ∃ x t b, xs = [x, .ty T] ∧ TyOf X.K H x t ∧ PySem.W.kitOne X.K t (.type T) = some b ∧ Q (.bl b) H) := by
  intro pins s σ H xs us Q I r h
  obtain ⟨x, t, b, rfl, ty, hk, q⟩ := h
  obtain ⟨u, w', rfl, ru, rw'⟩ := vals2 r
  cases (show w' = Value.type T from rw')
  exact isinst_ok I ru ty hk fun tk => ⟨.bl b, H, I.tok tk, rfl, q⟩
def isiD (tb : Dv → Bool) : Dv → Option (Rs Dv)
  | .scr _ => none
  | .exn _ => none
  | d => some (.ok (.bl (tb d)))
theorem fe_isi {T : String} {tb : Dv → Bool} (hk : ∀ K d, PySem.W.kitOne K (.type (tyD d)) (.type T) = some (tb d)) (hT : bootBuiltins (Str.ofString T) = some (.type T)) (hn : Str.ofString T ≠ "__name__") (hdT : (Str.ofString T == ("__debug__" : Str)) = false)
    (hg : Gl X "isinstance") (hm : X.mg "isinstance" = none) (hgT : Gl X (Str.ofString T)) (hmT : X.mg (Str.ofString T) = none) (ha : FE X a fa)
    (hs1 : starEach [a, .Name (Str.ofString T) pT] X.env = (false, eval a X.env) :: starEach [.Name (Str.ofString T) pT] X.env := by kernel_rfl) (hs2 : starEach [.Name (Str.ofString T) pT] X.env = (false, eval (.Name (Str.ofString T) pT) X.env) :: starEach [] X.env := by kernel_rfl)
    (hpl : (backTo pos (starEach [.Name (Str.ofString T) pT] X.env)).any (·.1) = false := by kernel_rfl) :
    FE X (.Call (.Name "isinstance" p) [a, .Name (Str.ofString T) pT] [] pos) (f1 (isiD tb) fa) :=
  fe_of (pe_callB (call_isi T) hg hm PyProof.Rows.boot_isinstance (pa_cons ha.h (pa_cons (pe_bltn (v := .ty T) hgT hmT hT rfl hn hdT) pa_nil hs2) hs1) (by decide) (by decide) hs1 hpl) fun σ H Q ρ E o => ⟨ρ, E, Out.bind o fun d v H1 e1 r o1 => by
    show ∃ x t b, [v, V.ty T] = [x, .ty T] ∧ _
    cases d with
    | scr ns => exact o1.elim
    | exn c => exact o1.elim
    | _ => exact ⟨v, _, _, rfl, tyOf_ok r (fun ns z => by cases z) (fun c z => by cases z), hk X.K _, o1 _ H1 (.refl H1) rfl⟩⟩
def tbStr : Dv → Bool
  | .str _ => true
  | _ => false
theorem kit_str (K : PySem.W.Frag) (d : Dv) : PySem.W.kitOne K (.type (tyD d)) (.type "str") = some (tbStr d) := by cases d <;> kernel_rfl
def tbTup : Dv → Bool
  | .tup _ => true
  | _ => false
theorem kit_tup (K : PySem.W.Frag) (d : Dv) : PySem.W.kitOne K (.type (tyD d)) (.type "tuple") = some (tbTup d) := by cases d <;> kernel_rfl
def tbBool : Dv → Bool
  | .bl _ => true
  | _ => false
def fM (g : Str → List Dv → Option (Rs Dv)) (fo : FnE) (ga : FnA) : FnE := fun ρ => bnd (fo ρ) fun x => match x with
  | .str i => bnd (ga ρ) fun xs => g i xs
  | _ => none
def strB (h : Str → Str → Bool) : Str → List Dv → Option (Rs Dv)
  | x, [.str y] => some (.ok (.bl (h x y)))
  | _, _ => none
def strI (h : Str → Str → Int) : Str → List Dv → Option (Rs Dv)
  | x, [.str y] => some (.ok (.int (h x y)))
  | _, _ => none
def rStrB (h : Str → Str → Bool) : V → List V → Hp → VK → Prop := fun x xs H Q => ∃ i j, x = .str i ∧ xs = [.str j] ∧ Q (.bl (h i j)) H
def rStrI (h : Str → Str → Int) : V → List V → Hp → VK → Prop := fun x xs H Q => ∃ i j, x = .str i ∧ xs = [.str j] ∧ Q (.int (h i j)) H
theorem mt_sw : MtR X "str.startswith" (rStrB Txt.startswith) := by
  intro pins s σ H x xs v us Q I rx rs h
  obtain ⟨i, j, rfl, rfl, q⟩ := h
  obtain ⟨t, rfl⟩ := rx
  obtain ⟨u, rfl, ru⟩ := vals1 rs
  obtain ⟨t', rfl⟩ := ru
  exact SC.startswith ⟨.bl _, H, I, rfl, q⟩
theorem mt_ew : MtR X "str.endswith" (rStrB Txt.endswith) := by
  intro pins s σ H x xs v us Q I rx rs h
  obtain ⟨i, j, rfl, rfl, q⟩ := h
  obtain ⟨t, rfl⟩ := rx
  obtain ⟨u, rfl, ru⟩ := vals1 rs
  obtain ⟨t', rfl⟩ := ru
  exact SC.endswith ⟨.bl _, H, I, rfl, q⟩
theorem mt_find : MtR X "str.find" (rStrI Txt.find) := by
  intro pins s σ H x xs v us Q I rx rs h
  obtain ⟨i, j, rfl, rfl, q⟩ := h
  obtain ⟨t, rfl⟩ := rx
  obtain ⟨u, rfl, ru⟩ := vals1 rs
  obtain ⟨t', rfl⟩ := ru
  exact SC.find ⟨.int _, H, I.tok _, ⟨_, rfl⟩, q⟩
theorem mt_count : MtR X "str.count" (rStrI Txt.count) := by
  intro pins s σ H x xs v us Q I rx rs h
  obtain ⟨i, j, rfl, rfl, q⟩ := h
  obtain ⟨t, rfl⟩ := rx
  obtain ⟨u, rfl, ru⟩ := vals1 rs
  obtain ⟨t', rfl⟩ := ru
  exact SC.count ⟨.int _, H, I.tok _, ⟨_, rfl⟩, q⟩
theorem fe_strM {name : Str} {id : String} {r : V → List V → Hp → VK → Prop} {g : Str → List Dv → Option (Rs Dv)} (slot : Slot "str" name id) (hty : typeOf (.builtin id) = pure (.type "method_descriptor")) (hm : MtR X id r)
    (hg : ∀ i ds vs H Q, Reps X.K H ds vs → Out X H (g i ds) Q → r (.str i) vs H Q) (ho : FE X o fo) (ha : FA X (e :: es) ga)
    (hbase : attributeBase o name X.env (eval o X.env) = eval o X.env := by kernel_rfl)
    (hfew : ((backTo cpos (starEach (e :: es) X.env)).all (fun x => !x.1) && (backToKw cpos (keywordEach [] X.env)).all (fun x => x.1.isSome)
      && decide ((e :: es).length + ([] : List Keyword).length + (if ([] : List Keyword).isEmpty then 0 else 1) < 30)) = true := by kernel_rfl)
    (hline : (apos.endLine == cpos.line) = true := by kernel_rfl) (hs : starEach (e :: es) X.env = (false, eval e X.env) :: starEach es X.env := by kernel_rfl) (hplain : (backTo cpos (starEach es X.env)).any (·.1) = false := by kernel_rfl) :
    FE X (.Call (.Attribute o name apos) (e :: es) [] cpos) (fM g fo ga) :=
  fe_of (pe_bm PySem.F.plainAttrs_str slot hty hm ho.h ha.h hbase hfew hline hs hplain) fun σ H Q ρ E o => ⟨ρ, E, Out.bind o fun d v H1 e1 rd o1 => by
    cases d <;> try exact (show False from o1).elim
    rename_i i
    cases (show v = .str i from rd)
    exact ⟨rfl, ρ, E.mono e1, OutA.bind o1 fun ds vs H2 e2 rs o2 => hg i ds vs H2 Q rs o2⟩⟩
theorem g_strB {h : Str → Str → Bool} (i : Str) (ds : List Dv) (vs : List V) (H : Hp) (Q : VK) (rs : Reps X.K H ds vs) (o : Out X H (strB h i ds) Q) : rStrB h (.str i) vs H Q := by
  unfold strB at o
  split at o
  · rename_i j
    obtain ⟨w, rfl, rw'⟩ := reps1 rs
    cases (show w = .str j from rw')
    exact ⟨i, j, rfl, rfl, o _ H (.refl H) rfl⟩
  · exact o.elim
theorem g_strI {h : Str → Str → Int} (i : Str) (ds : List Dv) (vs : List V) (H : Hp) (Q : VK) (rs : Reps X.K H ds vs) (o : Out X H (strI h i ds) Q) : rStrI h (.str i) vs H Q := by
  unfold strI at o
  split at o
  · rename_i j
    obtain ⟨w, rfl, rw'⟩ := reps1 rs
    cases (show w = .str j from rw')
    exact ⟨i, j, rfl, rfl, o _ H (.refl H) rfl⟩
  · exact o.elim
def rScr (K : PySem.W.Frag) : R2 := fun x y H Q => ∃ (a b : Addr) (ns : List Int), x = .ref a ∧ y = .ref b ∧ SqL K H a (ns.map V.int) ∧ H b = some (.lst []) ∧ Q (.bl ns.isEmpty) H
theorem o_scr (hu : X.A.units < cLine) : OpR X (compareOp .Eq) (rScr X.K) := by
  intro pins s σ H x y v u Q I rx ry h
  obtain ⟨a, b, ns, rfl, rfl, h1, h2, q⟩ := h
  cases rx
  cases ry
  obtain ⟨its, r, pl, hz⟩ := I.list h1
  obtain ⟨z2, its2, n2, r2, hl2, e2⟩ := I.lstM h2
  cases r2
  have hb : s.heap.IsList b #[] := ⟨_, e2, rfl, _, rfl⟩
  have hl := r.length
  cases ns with
  | nil =>
    have e0 : its = [] := by cases its with | nil => rfl | cons _ _ => simp at hl
    subst e0
    exact SeqAt.eq_listAt (e := fun _ => true) pl.isList hb rfl hu (fun i hi => absurd hi (by simp)) (by first | exact ⟨.bl _, H, I, rfl, q⟩ | (refine ⟨.bl _, H, I, ?_, q⟩; simp [RelV]))
  | cons n ns =>
    refine SeqAt.eq_list_lengthsAt pl.isList hb ?_ hu ⟨.bl _, H, I, rfl, q⟩
    have : 0 < its.length := by rw [← hl]; simp
    simp
    exact fun z => by rw [z] at this; simp at this
def scrD : Dv → Dv → Option (Rs Dv)
  | .scr ns, .lst [] => some (.ok (.bl ns.isEmpty))
  | _, _ => none
theorem g_scr : GOp X (rScr X.K) scrD := by
  intro dx dy x y H Q rx ry o
  unfold scrD at o
  split at o
  · rename_i ns
    obtain ⟨a, rfl, h1⟩ := rx.scrE
    obtain ⟨b, xs, rfl, h2, h3⟩ := ry.lstE
    cases (show xs = [] from h3)
    exact ⟨a, b, ns, rfl, rfl, h1, h2, o _ H (.refl H) rfl⟩
  · exact o.elim
end
end FD
namespace FD
open PySem
theorem bt_str : bootBuiltins (Str.ofString "str") = some (.type "str") := PyProof.Rows.boot_str
theorem bt_tuple : bootBuiltins (Str.ofString "tuple") = some (.type "tuple") := by decide +kernel
end FD
namespace FD
open PySem PySem.Spec PyProof.Rows L2
mutual
def toPy : Dv → PyData
  | .non => .none
  | .bl b => .bool b
  | .int i => .int i
  | .str x => .str x
  | .tup xs => .tuple (toPys xs)
  | .lst xs => .list (toPys xs)
  | .scr ns => .list (ns.map PyData.int)
  | .exn _ => .dict []
def toPys : List Dv → List PyData
  | [] => []
  | d :: ds => toPy d :: toPys ds
end
section
variable {X : Cx} {pins : List (Addr × Obj)} {σ : L2.St} {H : Hp} {s : Shared}
theorem ints_reads : ∀ {ns : List Int} {us : List Value}, Vals (ns.map V.int) us → ∃ as, ReadsAll s.heap us (ns.map PyData.int) as
  | [], us, r => by cases r; exact ⟨_, .nil⟩
  | n :: ns, us, r => by
    cases r with
    | cons r1 r2 =>
      obtain ⟨t, rfl⟩ := r1
      obtain ⟨as, q⟩ := ints_reads r2
      exact ⟨_, .cons (.int n t) q⟩
mutual
theorem Rep.reads (I : Inv X pins σ H s) : ∀ (d : Dv) (v : V) (u : Value), Rep X.K H d v → RelV v u → (toPy d).canLay0 = true → ∃ as, Reads s.heap u (toPy d) as
  | .non, v, u, r, q, hz0 => by cases (show v = .non from r); cases (show u = Value.none from q); exact ⟨_, .none⟩
  | .bl b, v, u, r, q, hz0 => by cases (show v = .bl b from r); cases (show u = Value.bool b from q); exact ⟨_, .bool b⟩
  | .int i, v, u, r, q, hz0 => by cases (show v = .int i from r); obtain ⟨t, rfl⟩ := (show ∃ t, u = Value.int i t from q); exact ⟨_, .int i t⟩
  | .str x, v, u, r, q, hz0 => by cases (show v = .str x from r); obtain ⟨t, rfl⟩ := (show ∃ t, u = Value.str x t from q); exact ⟨_, .str x t⟩
  | .tup ds, v, u, r, q, hz0 => by
    obtain ⟨a, xs, rfl, h, rs⟩ := r.tupE
    cases (show u = Value.ref a from q)
    obtain ⟨its, rv, ⟨o, e, c, n, d⟩, hz⟩ := I.tuple (SqT.of h)
    obtain ⟨as, ra⟩ := Reps.reads I ds xs its rs rv (by simpa [toPy, PyData.canLay0] using hz0)
    exact ⟨as, .tuple e c d (by simpa using ra)⟩
  | .lst ds, v, u, r, q, hz0 => by
    obtain ⟨a, xs, rfl, h, rs⟩ := r.lstE
    cases (show u = Value.ref a from q)
    obtain ⟨z, its, n, rv, hl, e⟩ := I.lstM h
    obtain ⟨as, ra⟩ := Reps.reads I ds xs its rs rv (by simpa [toPy, PyData.canLay0] using hz0)
    exact ⟨a :: as, .list e rfl rfl (by simpa using ra)⟩
  | .scr ns, v, u, r, q, hz0 => by
    obtain ⟨a, rfl, h⟩ := r.scrE
    cases (show u = Value.ref a from q)
    obtain ⟨its, rv, ⟨o, n, e, c, hd, d⟩, hz⟩ := I.list h
    obtain ⟨as, ra⟩ := ints_reads (s := s) rv
    exact ⟨a :: as, .list e c d (by simpa using ra)⟩
  | .exn c, v, u, r, q, hz0 => by simp [toPy, PyData.canLay0] at hz0
theorem Reps.reads (I : Inv X pins σ H s) : ∀ (ds : List Dv) (vs : List V) (us : List Value), Reps X.K H ds vs → Vals vs us → PyData.canLayAll0 (toPys ds) = true → ∃ as, ReadsAll s.heap us (toPys ds) as
  | [], vs, us, r, q, _ => by cases (show vs = [] from r); cases q; exact ⟨_, .nil⟩
  | d :: ds, vs, us, r, q, hz0 => by
    obtain ⟨v, ws, rfl, r1, r2⟩ : ∃ v us, vs = v :: us ∧ Rep X.K H d v ∧ Reps X.K H ds us := r
    cases q with
    | cons q1 q2 =>
      have hz1 : (toPy d).canLay0 = true ∧ PyData.canLayAll0 (toPys ds) = true := by simpa [toPys, PyData.canLayAll0] using hz0
      obtain ⟨as, a⟩ := Rep.reads I d v _ r1 q1 hz1.1
      obtain ⟨bs, b⟩ := Reps.reads I ds ws _ r2 q2 hz1.2
      exact ⟨_, .cons a b⟩
end
end
section
variable {X : Cx}
def okP (d : Dv) : Bool := SeqAt.shaped (toPy d)
def rPy (X : Cx) (neg : Bool) : R2 := fun x y H Q => ∃ dx dy, Rep X.K H dx x ∧ Rep X.K H dy y ∧ okP dx = true ∧ okP dy = true ∧ Q (.bl (if neg then !PyData.eqv (toPy dx) (toPy dy) else PyData.eqv (toPy dx) (toPy dy))) H
theorem op_eqP (hu : X.A.units + 64 < cLine) : OpR X (compareOp .Eq) (rPy X false) := by
  intro pins s σ H x y v u Q I rx ry h
  obtain ⟨dx, dy, qx, qy, hx, hy, q⟩ := h
  obtain ⟨as, ra⟩ := Rep.reads I dx x v qx rx (Bool.and_eq_true_iff.mp hx).1
  obtain ⟨bs, rb⟩ := Rep.reads I dy y u qy ry (Bool.and_eq_true_iff.mp hy).1
  exact SeqAt.compareEq_shaped ra rb hx hy hu ⟨.bl _, H, I, rfl, q⟩
theorem op_neP (hu : X.A.units + 64 < cLine) : OpR X (compareOp .NotEq) (rPy X true) := by
  intro pins s σ H x y v u Q I rx ry h
  obtain ⟨dx, dy, qx, qy, hx, hy, q⟩ := h
  obtain ⟨as, ra⟩ := Rep.reads I dx x v qx rx (Bool.and_eq_true_iff.mp hx).1
  obtain ⟨bs, rb⟩ := Rep.reads I dy y u qy ry (Bool.and_eq_true_iff.mp hy).1
  exact SeqAt.compareNe_shaped ra rb hx hy hu ⟨.bl _, H, I, rfl, q⟩
def eqX (x y : Dv) : Option (Rs Dv) := match eqS x y with
  | some b => some (.ok (.bl b))
  | none => if okP x && okP y then some (.ok (.bl (PyData.eqv (toPy x) (toPy y)))) else none
def neX (x y : Dv) : Option (Rs Dv) := match eqS x y with
  | some b => some (.ok (.bl (!b)))
  | none => if okP x && okP y then some (.ok (.bl (!PyData.eqv (toPy x) (toPy y)))) else none
def rEqX (X : Cx) : R2 := fun x y H Q => rEq x y H Q ∨ rPy X false x y H Q
def rNeX (X : Cx) : R2 := fun x y H Q => rNe x y H Q ∨ rPy X true x y H Q
theorem o_eqX (hu : X.A.units + 64 < cLine) : OpR X (compareOp .Eq) (rEqX X) := op_eq.or (op_eqP hu)
theorem o_neX (hu : X.A.units + 64 < cLine) : OpR X (compareOp .NotEq) (rNeX X) := op_ne.or (op_neP hu)
theorem g_eqX : GOp X (rEqX X) eqX := by
  intro dx dy x y H Q rx ry o
  unfold eqX at o
  split at o
  · rename_i b hb
    obtain ⟨h1, h2⟩ := eqS_ok rx ry hb
    exact .inl ⟨h1, by rw [h2]; exact o _ H (.refl H) rfl⟩
  · split at o
    · rename_i hc
      rw [Bool.and_eq_true] at hc
      exact .inr ⟨dx, dy, rx, ry, hc.1, hc.2, o _ H (.refl H) rfl⟩
    · exact o.elim
theorem g_neX : GOp X (rNeX X) neX := by
  intro dx dy x y H Q rx ry o
  unfold neX at o
  split at o
  · rename_i b hb
    obtain ⟨h1, h2⟩ := eqS_ok rx ry hb
    exact .inl ⟨h1, by rw [h2]; exact o _ H (.refl H) rfl⟩
  · split at o
    · rename_i hc
      rw [Bool.and_eq_true] at hc
      exact .inr ⟨dx, dy, rx, ry, hc.1, hc.2, o _ H (.refl H) rfl⟩
    · exact o.elim
def ltX : Dv → Dv → Option (Rs Dv)
  | .int i, .int j => some (.ok (.bl (decide (i < j))))
  | .str x, .str y => some (.ok (.bl (decide (x.cps.toList < y.cps.toList))))
  | _, _ => none
def rLtX : R2 := fun x y H Q => rI0 (fun i j => .bl (decide (i < j))) x y H Q ∨ ∃ i j, x = .str i ∧ y = .str j ∧ Q (.bl (decide (i.cps.toList < j.cps.toList))) H
theorem o_ltX : OpR X (compareOp .Lt) rLtX := op_lt.or op_lt_str
theorem g_ltX : GOp X rLtX ltX := by
  intro dx dy x y H Q rx ry o
  cases dx <;> cases dy <;> try exact (show False from o).elim
  · rename_i i j
    exact .inl ⟨i, j, rx, ry, o _ H (.refl H) rfl⟩
  · rename_i i j
    exact .inr ⟨i, j, rx, ry, o _ H (.refl H) rfl⟩
theorem vals_strs : ∀ (ps : List Str) (k : Nat), Vals (ps.map V.str) (strsFrom k ps)
  | [], _ => .nil
  | p :: ps, k => .cons ⟨k, rfl⟩ (vals_strs ps (k + 1))
theorem reps_strs {K : PySem.W.Frag} {H : Hp} : ∀ ps : List Str, Reps K H (ps.map Dv.str) (ps.map V.str)
  | [] => rfl
  | p :: ps => ⟨.str p, ps.map V.str, rfl, rfl, reps_strs ps⟩
def splitD : Str → List Dv → Option (Rs Dv)
  | x, [.str y] => if y.length ≠ 0 ∧ x.length ≤ 100000 ∧ (Txt.split x y).length ≤ 100000 then some (.ok (.lst ((Txt.split x y).map Dv.str))) else none
  | _, _ => none
def rSplit : V → List V → Hp → VK → Prop := fun x xs H Q => ∃ i j, x = .str i ∧ xs = [.str j] ∧ j.length ≠ 0 ∧ i.length ≤ sizeLine ∧ (Txt.split i j).length ≤ sizeLine ∧ ∀ p, H p = none → Q (.ref p) (upd H p (.lst ((Txt.split i j).map V.str)))
theorem mt_split : MtR X "str.split" rSplit := by
  intro pins s σ H x xs v us Q I rx rs h
  obtain ⟨i, j, rfl, rfl, hj, hi, hn, q⟩ := h
  obtain ⟨t, rfl⟩ := rx
  obtain ⟨u, rfl, ru⟩ := vals1 rs
  obtain ⟨t', rfl⟩ := ru
  have hy : (j.length == 0) = false := by simpa using hj
  have one : ∀ {s' : Shared}, s' = { s with heap := s.heap.push { cls := .type "list", data := .seq [Value.str i t].toArray } } → Txt.split i j = [i] → EP X pins σ Q (.ref s.heap.objs.size) s' := fun e e2 => by
    subst e
    rw [e2] at q
    exact ⟨.ref _, _, I.lnew (its := [Value.str i t]) (ys := [V.str i]) (t' := s.toks) (.cons ⟨t, rfl⟩ .nil) (by show 1 ≤ sizeLine; decide), rfl, q _ I.fresh⟩
  cases h1 : (decide (i.length < j.length) || decide (Builtin.Str.strKind i < Builtin.Str.strKind j))
  · cases hf : (Builtin.Str.occurrences i j 0 i.length (i.length + 1)).isEmpty
    · have e2 : Txt.split i j = Builtin.Str.partsBetween i (Builtin.Str.occurrences i j 0 i.length (i.length + 1)) j.length := by
        unfold Txt.split
        rw [if_neg (by rw [h1]; exact Bool.false_ne_true), if_neg (by rw [hf]; exact Bool.false_ne_true)]
      rw [e2] at q hn
      refine call_meets F.slot_str_split (typeIs_str _ _ _) F.entry_str_split (F.args_str_split_2 _ _) (meets_str_split_sep i j t t' h1 hy hf hi hn) ?_
      exact ⟨.ref _, _, I.lnew (t' := _) (vals_strs _ _) (by rw [List.length_map]; exact hn), rfl, q _ I.fresh⟩
    · refine call_meets F.slot_str_split (typeIs_str _ _ _) F.entry_str_split (F.args_str_split_2 _ _) (meets_str_split_not_found i j t t' h1 hy hf) ?_
      exact one rfl (by unfold Txt.split; rw [if_neg (by rw [h1]; exact Bool.false_ne_true), if_pos hf])
  · refine call_meets F.slot_str_split (typeIs_str _ _ _) F.entry_str_split (F.args_str_split_2 _ _) (meets_str_split_cannot_occur i j t t' h1) ?_
    exact one rfl (by unfold Txt.split; rw [if_pos h1])
theorem g_split (i : Str) (ds : List Dv) (vs : List V) (H : Hp) (Q : VK) (rs : Reps X.K H ds vs) (o : Out X H (splitD i ds) Q) : rSplit (.str i) vs H Q := by
  unfold splitD at o
  split at o
  · rename_i j
    split at o
    · rename_i hc
      obtain ⟨w, rfl, rw'⟩ := reps1 rs
      cases (show w = .str j from rw')
      exact ⟨i, j, rfl, rfl, hc.1, le_line hc.2.1, le_line hc.2.2, fun p hp => o _ _ (same_new hp _) ⟨p, _, rfl, upd_same, reps_strs _⟩⟩
    · exact o.elim
  · exact o.elim
def texts : List Dv → Option (List Str)
  | [] => some []
  | .str x :: r => (match texts r with | some xs => some (x :: xs) | none => none)
  | _ => none
def joinD : Str → List Dv → Option (Rs Dv)
  | x, [.lst ds] => (match texts ds with
    | some ts => if JoinOk x ts = true then some (.ok (.str (Txt.join x ts))) else none
    | none => none)
  | _, _ => none
def rJoin (K : PySem.W.Frag) : V → List V → Hp → VK → Prop := fun x xs H Q => ∃ i a vs ds ts, x = .str i ∧ xs = [.ref a] ∧ H a = some (.lst vs) ∧ Reps K H ds vs ∧ texts ds = some ts ∧ JoinOk i ts = true ∧ Q (.str (Txt.join i ts)) H
theorem texts_vals {K : PySem.W.Frag} {H : Hp} : ∀ {ds : List Dv} {vs : List V} {us : List Value} {ts : List Str}, Reps K H ds vs → Vals vs us → texts ds = some ts → ∃ l : List (Str × Tok), us = strValues l ∧ l.map (·.1) = ts
  | [], vs, us, ts, r, q, h => by
    cases (show vs = [] from r)
    cases q
    cases h
    exact ⟨[], rfl, rfl⟩
  | d :: ds, vs, us, ts, r, q, h => by
    obtain ⟨v, ws, rfl, r1, r2⟩ : ∃ v us, vs = v :: us ∧ Rep K H d v ∧ Reps K H ds us := r
    cases q with
    | cons q1 q2 =>
      cases d <;> try (cases h; done)
      rename_i b
      simp only [texts] at h
      cases hb : texts ds with
      | none => rw [hb] at h; cases h
      | some bs' =>
        rw [hb] at h
        cases h
        cases (show v = .str b from r1)
        obtain ⟨t, rfl⟩ := q1
        obtain ⟨l, e1, e2⟩ := texts_vals r2 q2 hb
        exact ⟨(b, t) :: l, by rw [e1]; rfl, by rw [List.map_cons, e2]⟩
theorem mt_join : MtR X "str.join" (rJoin X.K) := by
  intro pins s σ H x xs v us Q I rx rs h
  obtain ⟨i, a, vs, ds, ts, rfl, rfl, h1, h2, h3, h4, q⟩ := h
  obtain ⟨t, rfl⟩ := rx
  obtain ⟨u, rfl, ru⟩ := vals1 rs
  cases ru
  obtain ⟨z, its, n, rv, hl, e⟩ := I.lstM h1
  obtain ⟨l, e1, e2⟩ := texts_vals h2 rv h3
  subst e1
  exact SC.join ⟨_, e, rfl, _, rfl⟩ e2 h4 fun t' k => ⟨.str _, H, I.tok _, ⟨_, rfl⟩, q⟩
theorem g_join (i : Str) (ds : List Dv) (vs : List V) (H : Hp) (Q : VK) (rs : Reps X.K H ds vs) (o : Out X H (joinD i ds) Q) : rJoin X.K (.str i) vs H Q := by
  unfold joinD at o
  split at o
  · rename_i es
    split at o
    · rename_i ts ht
      split at o
      · rename_i hj
        obtain ⟨w, rfl, rw'⟩ := reps1 rs
        obtain ⟨a, xs, rfl, h1, h2⟩ := rw'.lstE
        exact ⟨i, a, xs, es, ts, rfl, rfl, h1, h2, ht, hj, o _ H (.refl H) rfl⟩
      · exact o.elim
    · exact o.elim
  · exact o.elim
def partD : Str → List Dv → Option (Rs Dv)
  | x, [.str y] => if y.length ≠ 0 ∧ x.length ≤ 100000 then some (.ok (.tup [.str (Txt.partition x y).1, .str (Txt.partition x y).2.1, .str (Txt.partition x y).2.2])) else none
  | _, _ => none
def rPart : V → List V → Hp → VK → Prop := fun x xs H Q => ∃ i j, x = .str i ∧ xs = [.str j] ∧ j.length ≠ 0 ∧ i.length ≤ sizeLine ∧ ∀ p, H p = none → Q (.ref p) (upd H p (.tup [.str (Txt.partition i j).1, .str (Txt.partition i j).2.1, .str (Txt.partition i j).2.2]))
theorem mt_part : MtR X "str.partition" rPart := by
  intro pins s σ H x xs v us Q I rx rs h
  obtain ⟨i, j, rfl, rfl, hj, hi, q⟩ := h
  obtain ⟨t, rfl⟩ := rx
  obtain ⟨u, rfl, ru⟩ := vals1 rs
  obtain ⟨t', rfl⟩ := ru
  have hy : (j.length == 0) = false := by simpa using hj
  have fin : ∀ (a b c : Str) (ta tb tc : Tok) (k : Nat), Txt.partition i j = (a, b, c) → EP X pins σ Q (.ref s.heap.objs.size) { s with toks := k, heap := s.heap.push { cls := .type "tuple", data := .seq [Value.str a ta, .str b tb, .str c tc].toArray } } := fun a b c ta tb tc k e => by
    rw [e] at q
    refine ⟨.ref _, _, I.laid (t' := k) (fun b u e => Heap.get?_push_of_some _ e) (Nat.le_refl _) ?_, rfl, q _ I.fresh⟩
    exact ⟨by show 3 ≤ sizeLine; decide, [Value.str a ta, .str b tb, .str c tc], .cons ⟨_, rfl⟩ (.cons ⟨_, rfl⟩ (.cons ⟨_, rfl⟩ .nil)), ⟨_, Heap.get?_push_size _ rfl, rfl, _, rfl⟩⟩
  refine call_meets F.slot_str_partition (typeIs_str _ _ _) F.entry_str_partition (F.args_str_partition_2 _ _) (meets_str_partition i j t t' hy hi) ?_
  cases ho : Builtin.Str.occurrences i j 0 i.length 1 with
  | nil => exact fin _ _ _ _ _ _ _ (by unfold Txt.partition; rw [ho])
  | cons k r => exact fin _ _ _ _ _ _ _ (by unfold Txt.partition; rw [ho])
theorem g_part (i : Str) (ds : List Dv) (vs : List V) (H : Hp) (Q : VK) (rs : Reps X.K H ds vs) (o : Out X H (partD i ds) Q) : rPart (.str i) vs H Q := by
  unfold partD at o
  split at o
  · rename_i j
    split at o
    · rename_i hc
      obtain ⟨w, rfl, rw'⟩ := reps1 rs
      cases (show w = .str j from rw')
      exact ⟨i, j, rfl, rfl, hc.1, le_line hc.2, fun p hp => o _ _ (same_new hp _) ⟨p, _, rfl, upd_same, ⟨_, _, rfl, rfl, _, _, rfl, rfl, _, _, rfl, rfl, rfl⟩⟩⟩
    · exact o.elim
  · exact o.elim
variable {p pos : Pos} {e : Expr} {es : List Expr} {ga : FnA}
def tupleD : List Dv → Option (Rs Dv)
  | [.lst xs] => some (.ok (.tup xs))
  | [.tup xs] => some (.ok (.tup xs))
  | _ => none
theorem fe_tuple (hg : Gl X "tuple") (hm : X.mg "tuple" = none) (ha : FA X (e :: es) ga) (he : starEach (e :: es) X.env = (false, eval e X.env) :: starEach es X.env := by kernel_rfl) (hpl : (backTo pos (starEach es X.env)).any (·.1) = false := by kernel_rfl) : FE X (.Call (.Name "tuple" p) (e :: es) [] pos) (fB1 tupleD ga) :=
  fe_of (pe_callTy call_tuple_of hg hm (by decide +kernel) ha.h (by decide) (by decide) he hpl) fun σ H Q ρ E o => ⟨ρ, E, OutA.bind o fun ds vs H1 e1 rs o1 => by
    unfold tupleD at o1
    split at o1
    · rename_i xs
      obtain ⟨v, rfl, r⟩ := reps1 rs
      obtain ⟨a, ws, rfl, h1, h2⟩ := r.lstE
      exact ⟨a, ws, rfl, .inl ⟨SqL.of h1, fun l hl => o1 _ _ (same_new hl _) ⟨l, ws, rfl, upd_same, Reps.mono (same_new hl _) _ _ h2⟩⟩⟩
    · rename_i xs
      obtain ⟨v, rfl, r⟩ := reps1 rs
      obtain ⟨a, ws, rfl, h1, h2⟩ := r.tupE
      exact ⟨a, ws, rfl, .inr ⟨SqT.of h1, o1 _ H1 (.refl H1) ⟨a, ws, rfl, h1, h2⟩⟩⟩
    · exact o1.elim⟩
end
end FD
namespace FD
open PySem PySem.Spec PyProof.Rows L2
section
variable {X : Cx} {apos cpos : Pos} {e o : Expr} {es : List Expr} {ga : FnA} {fo : FnE}
def ixOf (x : Dv) : List Dv → Nat → Option Nat
  | [], _ => none
  | y :: ys, k => if eqF y x then some k else ixOf x ys (k + 1)
def idxD : List Dv → List Dv → Option (Rs Dv)
  | xs, [x] => if flatD x && xs.all flatD && decide (xs.length ≤ 100000) then (match ixOf x xs 0 with | some j => some (.ok (.int j)) | none => none) else none
  | _, _ => none
theorem ixOf_ok {K : PySem.W.Frag} {H : Hp} {x : Dv} {u : V} (q : Rep K H x u) (hx : flatD x = true) : ∀ {xs : List Dv} {vs : List V} {k j : Nat}, Reps K H xs vs → xs.all flatD = true → ixOf x xs k = some j →
    k ≤ j ∧ (∃ v, vs[j - k]? = some v ∧ eqV v u = true) ∧ ∀ (m : Nat) v, m < j - k → vs[m]? = some v → eqV v u = false
  | [], vs, k, j, r, _, h => by cases h
  | y :: ys, vs, k, j, r, hf, h => by
    obtain ⟨v, ws, rfl, r1, r2⟩ : ∃ v us, vs = v :: us ∧ Rep K H y v ∧ Reps K H ys us := r
    rw [List.all_cons, Bool.and_eq_true] at hf
    unfold ixOf at h
    have e1 := eqF_ok r1 q hf.1 hx
    split at h
    · rename_i hh
      cases h
      refine ⟨Nat.le_refl _, ⟨v, by simp, by rw [e1]; exact hh⟩, fun m w hm => by omega⟩
    · rename_i hh
      obtain ⟨a, ⟨w, b1, b2⟩, c⟩ := ixOf_ok q hx r2 hf.2 h
      refine ⟨by omega, ⟨w, ?_, b2⟩, fun m z hm hz => ?_⟩
      · have e : j - k = (j - (k + 1)) + 1 := by omega
        rw [e, List.getElem?_cons_succ]
        exact b1
      · cases m with
        | zero =>
          have : z = v := by simpa using hz.symm
          subst this
          rw [e1]
          simpa using hh
        | succ m => exact c m z (by omega) (by simpa using hz)
def rIndex : V → List V → Hp → VK → Prop := fun x xs H Q => ∃ a vs y j, x = .ref a ∧ xs = [y] ∧ H a = some (.lst vs) ∧ flatV y = true ∧ vs.all flatV = true ∧ vs.length ≤ 100000 ∧ (∃ v, vs[j]? = some v ∧ eqV v y = true) ∧ (∀ (m : Nat) v, m < j → vs[m]? = some v → eqV v y = false) ∧ Q (.int j) H
theorem eqU_at {y : V} {vs : List V} {its : List Value} (r : Vals vs its) (f : vs.all flatV = true) {m : Nat} {v : V} (h : vs[m]? = some v) : ∃ hm : m < its.length, eqU y its[m] = eqV v y := by
  obtain ⟨u, hu, ru⟩ := r.get h
  obtain ⟨hm, e⟩ := List.getElem?_eq_some_iff.mp hu
  refine ⟨hm, ?_⟩
  rw [e]
  exact eqU_of ru (List.all_eq_true.mp f v (List.mem_of_getElem? h))
theorem mt_index : MtR X "list.index" rIndex := by
  intro pins s σ H x xs v us Q I rx rs h
  obtain ⟨a, vs, y, j, rfl, rfl, h1, fy, fv, hz, ⟨w, hw, hit⟩, hno, q⟩ := h
  cases rx
  obtain ⟨u, rfl, ru⟩ := vals1 rs
  obtain ⟨z, its, n, rv, hl, e⟩ := I.lstM h1
  obtain ⟨hj, ej⟩ := eqU_at (y := y) rv fv hw
  refine call_meets PySem.F.slot_list_index ⟨_, e, rfl⟩ PySem.F.entry_list_index (PySem.F.args_list_index_2 _ _) (SeqAt.list_indexAt a its.toArray n none #[] u (eqU y) j (by simpa using hj) (by omega) (by simpa [ej] using hit) fun m hm hlt => ?_) ⟨e, fun t ht => mem_eqAt ru fy rv fv t (by simpa using ht), ⟨.int j, H, I.tok _, ⟨_, rfl⟩, q⟩⟩
  have hm' : m < vs.length := by rw [rv.length]; simpa using hm
  obtain ⟨hm2, em⟩ := eqU_at (y := y) rv fv (List.getElem?_eq_getElem hm')
  have := hno m vs[m] hlt (List.getElem?_eq_getElem hm')
  simpa [em] using this
def fML (g : List Dv → List Dv → Option (Rs Dv)) (fo : FnE) (ga : FnA) : FnE := fun ρ => bnd (fo ρ) fun x => match x with
  | .lst i => bnd (ga ρ) fun xs => g i xs
  | _ => none
theorem fe_index (ho : FE X o fo) (ha : FA X (e :: es) ga)
    (hbase : attributeBase o "index" X.env (eval o X.env) = eval o X.env := by kernel_rfl)
    (hfew : ((backTo cpos (starEach (e :: es) X.env)).all (fun x => !x.1) && (backToKw cpos (keywordEach [] X.env)).all (fun x => x.1.isSome)
      && decide ((e :: es).length + ([] : List Keyword).length + (if ([] : List Keyword).isEmpty then 0 else 1) < 30)) = true := by kernel_rfl)
    (hline : (apos.endLine == cpos.line) = true := by kernel_rfl) (hs : starEach (e :: es) X.env = (false, eval e X.env) :: starEach es X.env := by kernel_rfl) (hplain : (backTo cpos (starEach es X.env)).any (·.1) = false := by kernel_rfl) :
    FE X (.Call (.Attribute o "index" apos) (e :: es) [] cpos) (fML idxD fo ga) :=
  fe_of (pe_bm PySem.F.plainAttrs_list PySem.F.slot_list_index PySem.F.type_list_index mt_index ho.h ha.h hbase hfew hline hs hplain) fun σ H Q ρ E o => ⟨ρ, E, Out.bind o fun d v H1 e1 rd o1 => by
    cases d <;> try exact (show False from o1).elim
    rename_i ds
    obtain ⟨a, vs, rfl, h1, h2⟩ := rd.lstE
    refine ⟨.inl ⟨rfl, vs, SqL.of h1⟩, ρ, E.mono e1, OutA.bind o1 fun es ws H2 e2 rs o2 => ?_⟩
    unfold idxD at o2
    split at o2
    · rename_i x
      split at o2
      · rename_i hc
        rw [Bool.and_eq_true, Bool.and_eq_true] at hc
        split at o2
        · rename_i j hj
          obtain ⟨w, rfl, rw'⟩ := reps1 rs
          have h2' := Reps.mono e2 _ _ h2
          obtain ⟨c1, c2, c3⟩ := ixOf_ok rw' hc.1.1 h2' hc.1.2 hj
          refine ⟨a, vs, w, j, rfl, rfl, e2 _ _ h1, flat_ok rw' hc.1.1, flats_ok h2' hc.1.2, by rw [h2.length]; exact of_decide_eq_true hc.2, by simpa using c2, by simpa using c3, o2 _ H2 (.refl H2) rfl⟩
        · exact o2.elim
      · exact o2.elim
    · exact o2.elim⟩
end
end FD
namespace FD
open PySem PySem.Spec PyProof.Rows L2
structure FG (X : Cx) (tg : Expr) (b : Dv → Ev → Option Ev) : Prop where
  h : ∀ (pins : List (Addr × Obj)) (s : Shared) (σ : L2.St) (H : Hp) (v : V) (u : Value) (d : Dv) (ρ ρ' : Ev), Inv X pins σ H s → RelV v u → Rep X.K H d v → Envs X.K H σ ρ → b d ρ = some ρ' →
    wpAny (model X.prog X.w) X.A (assign tg X.env u) (fun _ s' => ∃ σ' H', Inv X pins σ' H' s' ∧ Same H H' ∧ Envs X.K H' σ' ρ') X.xe s
def gN (i : Nat) : Dv → Ev → Option Ev := fun d ρ => some (ρ.set i (some d))
def gP (i j : Nat) : Dv → Ev → Option Ev := fun d ρ => match d with
  | .tup [a, c] => some ((ρ.set i (some a)).set j (some c))
  | _ => none
section
variable {X : Cx} {pos p1 p2 : Pos}
theorem fg_name (i : Nat) {x : Str} (hN : X.N.Nodup) (hi : X.N[i]? = some x) (hx : Loc X.env.scope x) (hf : X.fn x = true ∨ X.env.scope.names.lookup x = some .local) : FG X (.Name x pos) (gN i) :=
  ⟨fun pins s σ H v u d ρ ρ' I r rd E e => by
    cases e
    exact thn (pg_name hN hi hx hf pins s σ H v u (fun σ' H' => H' = H ∧ σ' = σ.set i (some v)) I r ⟨rfl, rfl⟩) fun _ s' ⟨σ', H', I', e1, e2⟩ => by
      subst e1 e2
      exact ⟨_, _, I', .refl _, E.set rd⟩⟩
theorem fg_pair (i j : Nat) {x y : Str} {k : Nat} (hc : X.calm = true) (hN : X.N.Nodup) (hi : X.N[i]? = some x) (hx : Loc X.env.scope x) (hf : X.fn x = true ∨ X.env.scope.names.lookup x = some .local)
    (hj : X.N[j]? = some y) (hy : Loc X.env.scope y) (hg : X.fn y = true ∨ X.env.scope.names.lookup y = some .local)
    (hs1 : (assignEach [.Name x p1, .Name y p2] X.env).map (·.2) = assign (.Name x p1) X.env :: (assignEach [.Name y p2] X.env).map (·.2) := by kernel_rfl) (hs2 : (assignEach [.Name y p2] X.env).map (·.2) = assign (.Name y p2) X.env :: (assignEach [] X.env).map (·.2) := by kernel_rfl)
    (hn : (assignEach [.Name x p1, .Name y p2] X.env).length = 2 := by kernel_rfl) (hst : (assignEach [.Name x p1, .Name y p2] X.env).findIdx? (·.1) = none := by kernel_rfl) : FG X (.Tuple [.Name x p1, .Name y p2] k pos) (gP i j) :=
  ⟨fun pins s σ H v u d ρ ρ' I r rd E e => by
    unfold gP at e
    split at e
    · rename_i a c
      cases e
      obtain ⟨ad, xs, rfl, h1, h2⟩ := rd.tupE
      obtain ⟨va, vc, rfl, ra, rc⟩ := reps2 h2
      refine thn (pg_tup (n := 2) hc (pgs_cons (pg_name (i := i) hN hi hx hf) (pgs_cons (pg_name (i := j) hN hj hy hg) pgs_nil hs2) hs1) hn hst pins s σ H _ u (fun σ' H' => H' = H ∧ σ' = (σ.set i (some va)).set j (some vc)) I r ⟨ad, _, rfl, SqT.of h1, rfl, va, [vc], rfl, vc, [], rfl, rfl, rfl, rfl⟩) fun _ s' ⟨σ', H', I', e1, e2⟩ => ?_
      subst e1 e2
      exact ⟨_, _, I', .refl _, (E.set ra).set rc⟩
    · cases e⟩
end
structure WkG (K : PySem.W.Frag) (J : It) (ds : List Dv) (H0 : Hp) : Prop where
  go : ∀ i H, Same H0 H → i < ds.length → J.go i H
  stop : ∀ H, Same H0 H → J.stop ds.length H
  yld : ∀ i H x H', Same H0 H → i < ds.length → J.yld i H x H' → Same H H' ∧ ∃ d, ds[i]? = some d ∧ Rep K H' d x
theorem Wk.toG {K : PySem.W.Frag} {J : It} {ds : List Dv} {H0 : Hp} (w : Wk K J ds H0) : WkG K J ds H0 :=
  ⟨w.go, w.stop, fun i H x H' e hi y => by
    obtain ⟨rfl, d, h1, h2⟩ := w.yld i H x H' e hi y
    exact ⟨.refl _, d, h1, h2⟩⟩
def OutG (X : Cx) (H : Hp) (o : Option (Rs (List Dv))) (R : It → Hp → Prop) : Prop := match o with
  | none => False
  | some (.exc c) => XW X c H
  | some (.ok ds) => ∀ J H', Same H H' → WkG X.K J ds H' → R J H'
theorem OutG.mono {X : Cx} {H H' : Hp} {R : It → Hp → Prop} (e : Same H H') : ∀ {o : Option (Rs (List Dv))}, OutG X H o R → OutG X H' o R
  | none, h => h
  | some (.exc _), h => XW.mono h e
  | some (.ok _), h => fun v H1 e1 r => h v H1 (e.trans e1) r
structure FIG (X : Cx) (tg iter : Expr) (f : FnA) : Prop where
  h : PI X tg iter fun σ H R => ∃ ρ, Envs X.K H σ ρ ∧ OutG X H (f ρ) R
theorem FI.toG {X : Cx} {tg iter : Expr} {f : FnA} (h : FI X tg iter f) : FIG X tg iter f :=
  ⟨fun pins s σ H R I ⟨ρ, E, o⟩ => h.h pins s σ H R I ⟨ρ, E, by
    match hf : f ρ, o with
    | some (.exc c), o => exact o
    | some (.ok ds), o => exact fun J H' e w => o J H' e w.toG⟩⟩
def capG (m : Nat) (cs : List (Str × Nat)) (ρ : Ev) : Ev := List.replicate m none ++ cs.map fun c => (ρ[c.2]?).join
def mapG (b : Dv → Ev → Option Ev) (tst : Option FnB) (elt : FnE) (cap : Ev) : List Dv → Option (List Dv)
  | [] => some []
  | d :: ds => match b d cap with
    | none => none
    | some ρ => match (match tst with | none => (some (.ok true) : Option (Rs Bool)) | some t => t ρ) with
      | some (.ok true) => (match elt ρ with
        | some (.ok y) => (match mapG b tst elt cap ds with | some ys => some (y :: ys) | none => none)
        | _ => none)
      | some (.ok false) => mapG b tst elt cap ds
      | _ => none
structure CompOkG (osc scope : Scope) (cs : List (Str × Nat)) (N : List Str) : Prop where
  kind : scope.kind = .function
  cell : ∀ y ∈ scope.names, y.2 ≠ .cell
  names : ∀ y ∈ scope.names, y.2 = .local → scope.names.lookup y.1 = some .local
  free : ∀ y ∈ scope.names, y.2 = .free → osc.names.lookup y.1 = some .cell ∨ osc.names.lookup y.1 = some .free
  caps : ∀ c ∈ cs, N[c.2]? = some c.1 ∧ scope.names.lookup c.1 = some .free
def capGS (m : Nat) (cs : List (Str × Nat)) (σ : L2.St) : L2.St := List.replicate m none ++ cs.map fun c => (σ[c.2]?).join
theorem repl_none {α : Type} {m i : Nat} {v : α} {l : List (Option α)} (h : (List.replicate m (none : Option α) ++ l)[i]? = some (some v)) : ∃ k, i = m + k ∧ l[k]? = some (some v) := by
  by_cases hi : i < m
  · rw [List.getElem?_append_left (by simpa using hi), List.getElem?_replicate, if_pos hi] at h
    cases h
  · refine ⟨i - m, by omega, ?_⟩
    rw [List.getElem?_append_right (by simpa using hi)] at h
    simpa using h
theorem envs_capG {K : PySem.W.Frag} {H : Hp} {σ : L2.St} {ρ : Ev} (m : Nat) (cs : List (Str × Nat)) (E : Envs K H σ ρ) : Envs K H (capGS m cs σ) (capG m cs ρ) := by
  refine ⟨by simp [capGS, capG], fun i d h => ?_⟩
  obtain ⟨k, rfl, hk⟩ := repl_none h
  rw [List.getElem?_map] at hk
  cases hc : cs[k]? with
  | none => rw [hc] at hk; simp at hk
  | some c =>
    rw [hc] at hk
    simp only [Option.map_some, Option.some.injEq] at hk
    have h2 : ρ[c.2]? = some (some d) := by
      cases q : ρ[c.2]? with
      | none => rw [q] at hk; simp at hk
      | some o => rw [q] at hk; simp at hk; rw [hk]
    obtain ⟨v, h3, h4⟩ := E.at' c.2 d h2
    refine ⟨v, ?_, h4⟩
    unfold capGS
    rw [List.getElem?_append_right (by simp)]
    simp only [List.length_replicate, Nat.add_sub_cancel_left, List.getElem?_map, hc, Option.map_some, h3]
    rfl
theorem comp_invG {X : Cx} {pins : List (Addr × Obj)} {σ : L2.St} {H : Hp} {s : Shared} {scope : Scope} {ns : List Str} {cs : List (Str × Nat)} {fp : List Addr} {h₁ : Heap} {C : Addr} {t' : Nat} (ok : CompOkG X.env.scope scope cs X.N) (I : Inv X pins σ H s) (hfp : ∀ b ∈ fp, FpOk X pins H b) (hlt : ∀ b ∈ fp, b < s.heap.objs.size)
    (hC : s.heap.objs.size ≤ C) (hns : h₁.Ns C fun _ => none) (old : ∀ b o, s.heap.get? b = some o → h₁.get? b = some o) :
    Inv (compCx X (ns ++ cs.map (·.1)) scope C s H fp) [] (capGS ns.length cs σ) H { s with heap := h₁, toks := t' } := by
  have cl1 : ∀ n c, (clOf scope.names X.env []).lookup n = some c → X.env.cells.lookup n = some c := fun n c e => by
    rcases clOf_sound _ _ e with q | ⟨q1, q2⟩
    · simp at q
    · obtain ⟨c', e'⟩ := I.ok.has n (ok.free _ q1 rfl)
      rw [e'] at q2
      rw [e', q2] <;> rfl
  have kf : ∀ n k, (relabel scope X.env).names.lookup n = some k → (k = .cell ∨ k = .free) → (n, NameKind.free) ∈ scope.names := fun n k h hk => by
    rcases relabel_kind h with q | ⟨_, q⟩
    · rcases hk with rfl | rfl
      · exact absurd rfl (ok.cell _ q)
      · exact q
    · exact q
  refine ⟨⟨I.ok.mod, ok.kind, I.ok.glob, I.ok.blt, hC, fun y z c e1 e2 => I.ok.inj y z c (cl1 y c e1) (cl1 z c e2), fun y hy => ?_, fun y c h => Bool.noConfusion h, I.ok.hd, I.ok.frames, .inl rfl, fun b hb => ⟨fun z => ?_, fun y c e => (hfp b hb).2.2.2.2.1 y c (cl1 y c e)⟩, I.bs, Nat.le_trans I.ok.bsz I.sz, fun b o e hb => ?_, fun b hb z => ?_, I.stack, I.stkFree⟩,
    rfl, I.bare, Un.kept old, ⟨_, hns, fun i y v h1 h2 h3 => ?_⟩, fun y c e => ?_, I.hok.fresh hC, fun y c e => I.freeC y c (cl1 y c e), fun p hp => absurd (show p ∈ ([] : List (Addr × Obj)) from hp) (by simp), I.hok.kept old, by simp [capGS, compCx]⟩
  · have hm : (y, NameKind.free) ∈ scope.names := by
      rcases hy with hy | hy
      · exact kf y _ hy (.inl rfl)
      · exact kf y _ hy (.inr rfl)
    exact Option.isSome_iff_exists.mp (clOf_has _ _ hm)
  · have := hlt b hb
    rw [z] at this
    exact absurd (Nat.lt_of_lt_of_le this hC) (Nat.lt_irrefl _)
  · rcases (hfp b hb).2.2.2.1 with z | z
    · exact I.ok.noex b o e z
    · exact absurd (Nat.lt_of_lt_of_le (Heap.lt_size e) (Nat.le_trans I.ok.bsz z)) (Nat.lt_irrefl _)
  · rcases List.mem_cons.mp (I.stkSub b z) with q | q
    · exact (hfp b hb).2.1 q
    · exact (hfp b hb).2.2.1 q
  · obtain ⟨k, rfl, h4⟩ := repl_none h2
    have h1' : (ns ++ cs.map (·.1))[ns.length + k]? = some y := h1
    rw [List.getElem?_append_right (by simp)] at h1'
    simp only [Nat.add_sub_cancel_left] at h1'
    rw [List.getElem?_map] at h1'
    cases hc : cs[k]? with
    | none => rw [hc] at h1'; simp at h1'
    | some c =>
      rw [hc] at h1'
      have ey : c.1 = y := by simpa using h1'
      subst ey
      rw [List.getElem?_map, hc] at h4
      simp only [Option.map_some, Option.some.injEq] at h4
      have h2' : σ[c.2]? = some (some v) := by
        cases q : σ[c.2]? with
        | none => rw [q] at h4; simp at h4
        | some o => rw [q] at h4; simp at h4; rw [h4]
      obtain ⟨hN, hf⟩ := ok.caps c (List.mem_of_getElem? hc)
      have hv := ok.free _ (lookup_mem hf) rfl
      obtain ⟨mm, _, hl⟩ := I.loc
      obtain ⟨u, r, l⟩ := hl c.2 c.1 v hN h2' (.inr hv)
      refine ⟨u, r, .inr ⟨relabel_free hf, ?_⟩⟩
      rcases l with ⟨l, _⟩ | ⟨_, a, ha, o, ho, hd⟩
      · have l' : X.env.scope.names.lookup c.1 = some .local := l
        rcases hv with z | z
        · rw [l'] at z; cases z
        · rw [l'] at z; cases z
      · obtain ⟨a', ha'⟩ := Option.isSome_iff_exists.mp (clOf_has (env := X.env) scope.names [] (lookup_mem hf))
        have e2 := cl1 _ _ ha'
        rw [ha] at e2
        cases e2
        exact ⟨a, ha', o, old _ _ ho, hd⟩
  · obtain ⟨v, o, ho, hd⟩ := I.cell y c (cl1 y c e)
    exact ⟨v, o, old _ _ ho, hd⟩
theorem compLoop_any {prog : Program} {w : World} {A : Around} {R : Result → Shared → Prop} {s : Shared} {elt target iter : Expr} {ifs : List Expr} {scope : Scope} {pos : Pos} {it acc : Value} {env : Env} (I : Nat → Shared → Prop)
    (turn : ∀ n s, I n s → wpAny (model prog w) A (pyNext it) (fun r s₁ => match r with
      | none => R (.ok .next) s₁
      | some v => wpAny (model prog w) A (letOwnedTupleGo target it v) (fun _ s₀ => wpAny (model prog w) A (assign target env v) (fun _ s₂ =>
          wpAny (model prog w) A (forIn ifs true fun c r => if r = true then do let ok ← isTrue c env (eval c env); pure (ForInStep.yield ok) else pure (ForInStep.yield r)) (fun ok s₃ =>
            if ok = true then wpAny (model prog w) A (eval elt env) (fun x s₄ =>
              wpAny (model prog w) A (call (.builtin "list.append") [acc, x]) (fun _ s₅ => ∃ m, m < n ∧ I m s₅) (notedBy (model prog w) A env fun e s' => R (.error e) s') s₄) (notedBy (model prog w) A env fun e s' => R (.error e) s') s₃
            else ∃ m, m < n ∧ I m s₃) (notedBy (model prog w) A env fun e s' => R (.error e) s') s₂) (notedBy (model prog w) A env fun e s' => R (.error e) s') s₀) (notedBy (model prog w) A env fun e s' => R (.error e) s') s₁) (notedBy (model prog w) A env fun e s' => R (.error e) s') s)
    (n : Nat) (h : I n s) :
    codeAny (model prog w) A (.compLoop (.ListComp elt [⟨target, iter, ifs, 0⟩] scope pos) 0 it acc env) R s := by
  refine codeAny_loop rfl I (fun n s hI => ?_) n h
  show wpAny _ A ((compTurn (.ListComp elt [⟨target, iter, ifs, 0⟩] scope pos) 0 it acc env).onRaise (fun x => do noteFrame x env; theTreesLotGoes x)) _ _ s
  refine wpAny_noted ?_
  rw [compTurn_list]
  refine wpAny_bind (wpAny_standAt (wpAny_bind (wpAny_mono (turn n s hI) (fun r s₁ h₁ => ?_) fun _ _ h' => h')))
  cases r with
  | none => exact wpAny_pure h₁
  | some v =>
    refine wpAny_bind (wpAny_mono h₁ (fun _ s₀ h₀ => ?_) fun _ _ h' => h')
    refine wpAny_bind (wpAny_mono h₀ (fun _ s₂ h₂ => wpAny_bind (wpAny_mono h₂ (fun ok s₃ h₃ => ?_) fun _ _ h' => h')) fun _ _ h' => h')
    cases ok with
    | false =>
      rw [if_neg Bool.false_ne_true] at h₃
      first
        | exact wpAny_bind (wpAny_pure (wpAny_pure ⟨rfl, h₃⟩))
        | exact wpAny_pure ⟨rfl, h₃⟩
        | (show wpAny _ _ (again _) _ _ _; exact wpAny_pure ⟨rfl, h₃⟩)
    | true =>
      rw [if_pos rfl] at h₃
      first
        | exact wpAny_bind (wpAny_bind (wpAny_mono h₃ (fun x s₄ h₄ => wpAny_bind (wpAny_mono h₄ (fun _ s₅ h₅ => wpAny_pure (wpAny_pure ⟨rfl, h₅⟩)) fun _ _ h' => h')) fun _ _ h' => h'))
        | exact wpAny_bind (wpAny_mono h₃ (fun x s₄ h₄ => wpAny_bind (wpAny_mono h₄ (fun _ s₅ h₅ => wpAny_pure ⟨rfl, h₅⟩) fun _ _ h' => h')) fun _ _ h' => h')
def CompG (X : Cx) (ns : List Str) (cs : List (Str × Nat)) (scope : Scope) (D : Addr) (s2 : Shared) (H2 : Hp) (fp : List Addr) (tn : Nat → Heap → Prop) (ds ys : List Dv) (b : Dv → Ev → Option Ev) (tst : Option FnB) (fe : FnE) (ρ : Ev) (m : Nat) (s' : Shared) : Prop :=
  ∃ i σ' H' es vs its, m = ds.length - i ∧ i ≤ ds.length ∧ Inv (compCx X (ns ++ cs.map (·.1)) scope (D + 1) s2 H2 fp) [] σ' H' s' ∧ Envs X.K H' σ' (capG ns.length cs ρ) ∧ tn i s'.heap ∧ (∀ b ∈ fp, H' b = none) ∧ H' D = none ∧ LAt s'.heap D its ∧ Vals vs its ∧ Reps X.K H' es vs ∧ es.length ≤ i ∧ Same H2 H' ∧
      (match mapG b tst fe (capG ns.length cs ρ) (ds.drop i) with | some zs => es ++ zs = ys | none => False)
set_option maxHeartbeats 4000000 in
theorem comp_core {X : Cx} {pins : List (Addr × Obj)} {σ : L2.St} {tg elt iter : Expr} {ifs : List Expr} {scope : Scope} {pos : Pos} {ns : List Str} {tst : Option FnB} {fe : FnE} {b : Dv → Ev → Option Ev} {js : List Nat} (cs : List (Str × Nat)) (ok : CompOkG X.env.scope scope cs X.N) (hc : X.calm = true)
    (htg : ∀ C s H fp, FG (compCx X (ns ++ cs.map (·.1)) scope C s H fp) tg b) (helt : ∀ C s H fp, FE (compCx X (ns ++ cs.map (·.1)) scope C s H fp) elt fe) (hifs : ∀ C s H fp, FIfs (compCx X (ns ++ cs.map (·.1)) scope C s H fp) ifs tst)
    (hback : ∀ ρ d ρ', b d (capG ns.length cs ρ) = some ρ' → fgt js ρ' = capG ns.length cs ρ)
    {ρ : Ev} {s2 : Shared} {it : Addr} {fp : List Addr} {tn : Nat → Heap → Prop} {J : It} {H2 : Hp} (E : Envs X.K H2 σ ρ) (I2 : Inv X pins σ H2 s2) (T : Turn X.prog X.w X.K tg J fp it tn) (st2 : tn 0 s2.heap) (f2 : ∀ b ∈ fp, FpOk X pins H2 b) {ds ys : List Dv} (wk : WkG X.K J ds H2) (hdl : ds.length ≤ 100000) (hyl : ys.length ≤ 100000) (hm : mapG b tst fe (capG ns.length cs ρ) ds = some ys)
    {RR : Value → Addr → Result → Shared → Prop}
    (hRR : ∀ (D C : Addr) (s6 : Shared) (H5 : Hp) (vs : List V) (m6 : Str → Option Value), Inv X pins σ (upd H5 D (.lst vs)) s6 → H5 D = none → Same H2 H5 → Reps X.K H5 ys vs → s6.heap.Ns C m6 → H5 C = none → C ≠ D → s2.heap.objs.size ≤ C → RR (.ref D) C (.ok .next) s6) :
    wpAny (model X.prog X.w) X.A (newList []) (fun acc s₃ => wpAny (model X.prog X.w) X.A (newFunctionEnv scope X.env.globals (clOf scope.names X.env []) [] X.env.qual none .none (some X.env)) (fun cenv s₄ =>
      codeAny (model X.prog X.w) X.A (.compStart (.ListComp elt [⟨tg, iter, ifs, 0⟩] scope pos) 0 (.ref it) acc { cenv with scope := relabel scope X.env }) (RR acc cenv.locals) s₄) X.xe s₃) X.xe s2 := by
  have fplt : ∀ b ∈ fp, b < s2.heap.objs.size := fun b hb => by
    obtain ⟨o, ho, _⟩ := T.obj _ _ st2 b hb
    exact Heap.lt_size ho
  refine wpAny_newObj_type (wpAny_newFunctionEnv ok.cell (by intro y hy; simp at hy) (fun h₁ hns₁ hsb₁ => ?_) ok.kind)
  dsimp only at hns₁ hsb₁ ⊢
  generalize hH2 : s2.heap.push { cls := .type "list", dict := none, data := .seq ([] : List Value).toArray } = P2 at hns₁ hsb₁ ⊢
  obtain ⟨D, hD⟩ : ∃ D, s2.heap.objs.size = D := ⟨_, rfl⟩
  have hC : P2.objs.size = D + 1 := by rw [← hH2, Heap.size_push, hD]
  rw [hC] at hns₁ hsb₁
  rw [hC, hD]
  have old : ∀ b o, s2.heap.get? b = some o → h₁.get? b = some o := fun b o e => by
    have hb : b < D := by rw [← hD]; exact Heap.lt_size e
    exact hsb₁.extBut b o (ad_ne1 hb) (Heap.get?_push_of_some _ (hH2 ▸ Heap.get?_push_of_some _ e))
  have hacc : LAt h₁ D [] := ⟨0, hsb₁.extBut _ _ ad_s (Heap.get?_push_of_some _ (by rw [← hH2, ← hD]; exact Heap.get?_push_size _ rfl))⟩
  have hns : h₁.Ns (D + 1) fun _ => none := by simpa using hns₁
  have I4 : Inv (compCx X (ns ++ cs.map (·.1)) scope (D + 1) s2 H2 fp) [] (capGS ns.length cs σ) H2 { s2 with heap := h₁, toks := s2.toks + ([] : List (Str × Value)).length } := comp_invG ok I2 f2 fplt (by rw [hD]; exact Nat.le_succ D) hns old
  have E4 : Envs X.K H2 (capGS ns.length cs σ) (capG ns.length cs ρ) := envs_capG ns.length cs E
  have HD : H2 D = none := I2.hok.fresh (Nat.le_of_eq hD)
  have fpD : ∀ b ∈ fp, b ≠ D := fun b hb => ad_ne (hD ▸ fplt b hb)
  have loop : ∀ s4 : Shared, s4 = { s2 with heap := h₁, toks := s2.toks + ([] : List (Str × Value)).length } →
      codeAny (model X.prog X.w) X.A (.compLoop (.ListComp elt [⟨tg, iter, ifs, 0⟩] scope pos) 0 (.ref it) (.ref D) (compEnvC scope (clOf scope.names X.env []) (D + 1) X.env)) (RR (.ref D) (D + 1)) s4 := by
    rintro s4 rfl
    refine compLoop_any (fun k s' => CompG X ns cs scope D s2 H2 fp tn ds ys b tst fe ρ k s') ?_ ds.length ⟨0, capGS ns.length cs σ, H2, [], [], [], by simp, Nat.zero_le _, I4, E4, T.keep _ _ _ st2 fun b hb o e => old b o e, fun b hb => (f2 b hb).1, HD, hacc, .nil, rfl, Nat.le_refl _, .refl H2, by rw [List.drop_zero, hm]; rfl⟩
    rintro k0 s5 ⟨i, σ5, H5, es, vs, its, rfl, hi5, I5, E5, t5, fr5, D5, l5, v5, r5, hel, e5, hz⟩
    have nC : ∀ b ∈ fp, b ≠ D + 1 := fun b hb => ad_ne1 (hD ▸ fplt b hb)
    have DL : D ≠ (compCx X (ns ++ cs.map (·.1)) scope (D + 1) s2 H2 fp).env.locals := ad_s
    have Dcell : ∀ y c, (compCx X (ns ++ cs.map (·.1)) scope (D + 1) s2 H2 fp).env.cells.lookup y = some c → c ≠ D := fun y c e z => by
      obtain ⟨v, o, ho, hd⟩ := I5.cell y c e
      obtain ⟨n, q⟩ := l5
      subst z
      rw [q] at ho
      cases ho
      cases hd
    have Dfs : D ∉ (compCx X (ns ++ cs.map (·.1)) scope (D + 1) s2 H2 fp).fs := fun z => by
      rcases List.mem_cons.mp (I2.stkSub D z) with q | q
      · have z2 := I2.lt
        rw [hD] at z2
        exact ad_ne z2 q.symm
      · exact I2.nofs (Nat.le_of_eq hD) q
    have Dp : FpOk (compCx X (ns ++ cs.map (·.1)) scope (D + 1) s2 H2 fp) [] H5 D := ⟨D5, DL, Dfs, .inr (Nat.le_of_eq hD), Dcell, fun p hp => absurd (show p ∈ ([] : List (Addr × Obj)) from hp) (by simp)⟩
    have Dob : ∀ b ∈ [D], ∃ o, s5.heap.get? b = some o ∧ ∀ v, o.data ≠ .cell v := fun b hb => by
      have e : b = D := by simpa using hb
      subst e
      obtain ⟨n, q⟩ := l5
      exact ⟨_, q, fun v z => by cases z⟩
    have I5p : Inv (compCx X (ns ++ cs.map (·.1)) scope (D + 1) s2 H2 fp) (pinsAt [D] s5.heap) σ5 H5 s5 := by
      have q := I5.pinned (fp := [D]) (fun b hb => by have e : b = D := by simpa using hb
                                                      subst e; exact Dp) Dob
      rw [List.nil_append] at q
      exact q
    have ner : ∀ b ∈ fp, ∀ p ∈ pinsAt [D] s5.heap, p.1 ≠ b := fun b hb p hp z => by
      have e : p.1 = D := by simpa using (of_pinsAt hp).1
      exact fpD b hb (z.symm.trans e)
    have fp5' : ∀ b ∈ fp, FpOk (compCx X (ns ++ cs.map (·.1)) scope (D + 1) s2 H2 fp) (pinsAt [D] s5.heap) H5 b := fun b hb => ⟨fr5 b hb, nC b hb, I4.ok.exfs b hb, .inl hb, (I4.ok.exf b hb).2, fun p hp => ner b hb p (by simpa [compCx] using hp)⟩
    have lenR : vs.length = es.length := r5.length
    have lenV : vs.length = its.length := v5.length
    by_cases hlt : i < ds.length
    · refine thn (T.item (compCx X (ns ++ cs.map (·.1)) scope (D + 1) s2 H2 fp) rfl rfl rfl hc i (pinsAt [D] s5.heap) s5 σ5 H5 _ I5p fp5' t5 (wk.go i H5 e5 hlt)) fun r s6 ⟨u, hr, h6⟩ => ?_
      subst hr
      refine thn h6 fun _ s7 ⟨xv, H7, I7, r7, y7, t7, fr7⟩ => ?_
      obtain ⟨e57, d, hd, rd⟩ := wk.yld i H5 xv H7 e5 hlt y7
      rw [drop_cons hd] at hz
      have I7p := I7.pinned (fp := fp) (fun b hb => ⟨fr7 b hb, nC b hb, I4.ok.exfs b hb, .inl hb, (I4.ok.exf b hb).2, fun p hp => ner b hb p (by simpa [compCx] using hp)⟩) (T.obj _ _ t7)
      have fin : ∀ {σ8 : L2.St} {H8 : Hp} {s8 : Shared}, Inv (compCx X (ns ++ cs.map (·.1)) scope (D + 1) s2 H2 fp) (pinsAt [D] s5.heap ++ pinsAt fp s7.heap) σ8 H8 s8 → tn (i + 1) s8.heap ∧ (∀ b ∈ fp, H8 b = none) ∧ H8 D = none ∧ LAt s8.heap D its := fun {σ8 H8 s8} I8 => by
        refine ⟨T.keep _ _ _ t7 fun b hb o e => (I8.pin (b, o) (List.mem_append_right _ (List.mem_append_right _ (mem_pinsAt hb e)))).1, fun b hb => ?_, ?_, ?_⟩
        · obtain ⟨o, e, _⟩ := T.obj _ _ t7 b hb
          exact (I8.pin (b, o) (List.mem_append_right _ (List.mem_append_right _ (mem_pinsAt hb e)))).2.1
        · obtain ⟨n, q⟩ := l5
          exact (I8.pin (D, _) (List.mem_append_right _ (List.mem_append_left _ (mem_pinsAt (by simp) q)))).2.1
        · obtain ⟨n, q⟩ := l5
          exact ⟨n, (I8.pin (D, _) (List.mem_append_right _ (List.mem_append_left _ (mem_pinsAt (by simp) q)))).1⟩
      unfold mapG at hz
      match hb : b d (capG ns.length cs ρ) with
      | none => rw [hb] at hz; exact hz.elim
      | some ρd =>
        rw [hb] at hz
        dsimp only at hz
        refine wpAny_mono ((htg (D + 1) s2 H2 fp).h _ s7 σ5 H7 xv u d (capG ns.length cs ρ) ρd I7p r7 rd (E5.mono e57) hb) (fun _ s8 ⟨σ8, H8, I8, e78, E8⟩ => ?_) fun _ _ z => False.elim z
        have e58 := e57.trans e78
        have back : ∀ {σ9 : L2.St} {H9 : Hp}, Envs X.K H9 σ9 ρd → Envs X.K H9 σ9 (capG ns.length cs ρ) := fun {σ9 H9} E9 => by
          have q := Envs.fgt js E9
          rw [hback ρ d ρd hb] at q
          exact q
        have took : ∀ {H9 : Hp} {s9 : Shared}, Inv (compCx X (ns ++ cs.map (·.1)) scope (D + 1) s2 H2 fp) (pinsAt [D] s5.heap ++ pinsAt fp s7.heap) σ8 H9 s9 → Same H8 H9 →
            (match (match fe ρd with | some (.ok y) => (match mapG b tst fe (capG ns.length cs ρ) (ds.drop (i + 1)) with | some ys => some (y :: ys) | none => none) | _ => none) with | some zs => es ++ zs = ys | none => False) →
            wpAny (model X.prog X.w) X.A (eval elt (compEnvC scope (clOf scope.names X.env []) (D + 1) X.env)) (fun xw s₄ =>
              wpAny (model X.prog X.w) X.A (call (.builtin "list.append") [.ref D, xw]) (fun _ s₅ => ∃ k, k < ds.length - i ∧ CompG X ns cs scope D s2 H2 fp tn ds ys b tst fe ρ k s₅) (notedBy (model X.prog X.w) X.A (compEnvC scope (clOf scope.names X.env []) (D + 1) X.env) fun e s' => RR (.ref D) (D + 1) (.error e) s') s₄) (notedBy (model X.prog X.w) X.A (compEnvC scope (clOf scope.names X.env []) (D + 1) X.env) fun e s' => RR (.ref D) (D + 1) (.error e) s') s9 := fun {H9 s9} I9 e9 hz9 => by
          match hfe : fe ρd, hz9 with
          | none, hz9 => exact hz9.elim
          | some (.exc c), hz9 => exact hz9.elim
          | some (.ok y), hz9 =>
            refine wpAny_mono ((helt (D + 1) s2 H2 fp).h _ s9 σ8 H9 (fun v H10 => Same H9 H10 ∧ Rep X.K H10 y v) I9 ⟨ρd, E8.mono e9, by rw [hfe]; exact fun v H10 e10 r10 => ⟨e10, r10⟩⟩) (fun w s10 ⟨yv, H10, I10, rw10, e10, r10⟩ => ?_) fun _ _ z => False.elim z
            obtain ⟨t10, fr10, D10, l10⟩ := fin I10
            refine lat_append l10 (by omega) fun h11 l11 k11 => ?_
            have I10' : Inv (compCx X (ns ++ cs.map (·.1)) scope (D + 1) s2 H2 fp) (pinsAt fp s7.heap) σ8 H10 s10 := I10.pins_of fun p hp => I10.pin p (List.mem_append_right _ (List.mem_append_right _ hp))
            have I11 : Inv (compCx X (ns ++ cs.map (·.1)) scope (D + 1) s2 H2 fp) (pinsAt fp s7.heap) σ8 H10 { s10 with heap := h11 } := I10'.turned (t' := s10.toks) k11 D10 DL (.inr (Nat.le_of_eq hD)) Dcell fun p hp z => by
              have hp' : p ∈ pinsAt fp s7.heap := by simpa [compCx] using hp
              exact fpD p.1 (of_pinsAt hp').1 z
            have e80 := e9.trans e10
            refine ⟨ds.length - (i + 1), by omega, i + 1, σ8, H10, es ++ [y], vs ++ [yv], its ++ [w], rfl, hlt, I11.pins_of fun p hp => absurd hp (by simp), back (E8.mono e80), T.keep _ _ _ t10 fun b hb o e => k11 b o (fpD b hb) e, fr10, D10, l11, v5.append (.cons rw10 .nil), (Reps.mono (e58.trans e80) _ _ r5).append ⟨yv, [], rfl, r10, rfl⟩, by rw [List.length_append, List.length_singleton]; omega, e5.trans (e58.trans e80), ?_⟩
            match hm2 : mapG b tst fe (capG ns.length cs ρ) (ds.drop (i + 1)), hz9 with
            | none, hz9 => exact hz9.elim
            | some zs, hz9 => dsimp only at hz9 ⊢; rw [List.append_assoc]; exact hz9
        have hif := hifs (D + 1) s2 H2 fp
        cases tst with
        | none =>
          cases (show ifs = [] from hif)
          exact wpAny_tests_nil (by rw [if_pos rfl]; exact took I8 (.refl H8) hz)
        | some t =>
          obtain ⟨c, rfl, hct⟩ := hif
          match htt : t ρd, hz with
          | none, hz => simp only [htt] at hz
          | some (.exc c), hz => simp only [htt] at hz
          | some (.ok true), hz =>
            simp only [htt] at hz
            refine wpAny_tests_one (wpAny_mono (hct.h _ s8 σ8 H8 (fun b H9 => b = true ∧ Same H8 H9) I8 ⟨_, E8, by rw [htt]; exact fun H9 e9 => ⟨rfl, e9⟩⟩) (fun b s9 ⟨H9, I9, hb, e9⟩ => ?_) fun _ _ z => False.elim z)
            subst hb
            rw [if_pos rfl]
            exact took I9 e9 hz
          | some (.ok false), hz =>
            simp only [htt] at hz
            refine wpAny_tests_one (wpAny_mono (hct.h _ s8 σ8 H8 (fun b H9 => b = false ∧ Same H8 H9) I8 ⟨_, E8, by rw [htt]; exact fun H9 e9 => ⟨rfl, e9⟩⟩) (fun b s9 ⟨H9, I9, hb, e9⟩ => ?_) fun _ _ z => False.elim z)
            subst hb
            rw [if_neg Bool.false_ne_true]
            obtain ⟨t9, fr9, D9, l9⟩ := fin I9
            exact ⟨ds.length - (i + 1), by omega, i + 1, σ8, H9, es, vs, its, rfl, hlt, I9.pins_of fun p hp => absurd hp (by simp), back (E8.mono e9), t9, fr9, D9, l9, v5, Reps.mono (e58.trans e9) _ _ r5, by omega, e5.trans (e58.trans e9), hz⟩
    · have hi' : i = ds.length := by omega
      subst hi'
      rw [List.drop_length] at hz
      have hz' : es ++ [] = ys := hz
      rw [List.append_nil] at hz'
      subst hz'
      refine thn (T.done (compCx X (ns ++ cs.map (·.1)) scope (D + 1) s2 H2 fp) rfl rfl rfl hc ds.length (pinsAt [D] s5.heap) s5 σ5 H5 _ I5p fp5' t5 (wk.stop H5 e5)) fun r s6 ⟨hr, I6⟩ => ?_
      subst hr
      have l6 : LAt s6.heap D its := by
        obtain ⟨n, q⟩ := l5
        exact ⟨n, (I6.pin (D, _) (List.mem_append_right _ (mem_pinsAt (by simp) q))).1⟩
      obtain ⟨m6, n6, _⟩ := I6.loc
      have C6 : H5 (D + 1) = none := I6.free
      have new : ObjOk X.prog X.w (upd H5 D (.lst vs)) s6.heap D (.lst vs) := by
        obtain ⟨n, q⟩ := l6
        exact ⟨by rw [lenR]; exact le_line hyl, its, n, v5, q⟩
      have u6 : Un (frs X.stack) fp H2 H5 s2.heap s6.heap := I6.base
      have nD : ∀ b o, s2.heap.get? b = some o → b ≠ D := fun b o e => by
        have hb : b < D := by rw [← hD]; exact Heap.lt_size e
        exact ad_ne hb
      have u7 : Un (frs X.stack) fp H2 (upd H5 D (.lst vs)) s2.heap s6.heap := ⟨u6.keep, u6.slot, fun b o e n hx => by rw [upd_ne (nD b o e)]; exact u6.free b o e n hx, u6.there, fun b xs q => by
          have q' := u6.tups b xs q
          rw [upd_ne (ne_of_none q' D5)]; exact q', fun b o u q => by
          have q' := u6.frzs b o u q
          rw [upd_ne (ne_of_none q' D5)]; exact q', fun b ps q => by
          obtain ⟨more, q'⟩ := u6.tbls b ps q
          exact ⟨more, by rw [upd_ne (ne_of_none q' D5)]; exact q'⟩⟩
      have I7 : Inv X pins σ (upd H5 D (.lst vs)) s6 := I2.call' (s' := s6) (ch := fp) I6.os u7 (HOk.add I6.hok D5 C6 (fun b u _ q => q) new) I6.bare fun b hb => ⟨(f2 b hb).2.2.2.1, (f2 b hb).2.1, (f2 b hb).2.2.2.2.1, (f2 b hb).2.2.2.2.2⟩
      exact hRR D (D + 1) s6 H5 vs m6 I7 D5 e5 r5 n6 C6 (Ne.symm ad_s) (by rw [hD]; exact Nat.le_succ D)
  exact codeAny_compStart_list (loop _ rfl) (T.self _ 0 _ _ _ (T.keep _ _ _ st2 fun b hb o e => old b o e) (loop _ rfl))
end FD
namespace FD
open PySem PySem.Spec PyProof.Rows L2
def fCompG (m : Nat) (cs : List (Str × Nat)) (src : FnA) (b : Dv → Ev → Option Ev) (tst : Option FnB) (elt : FnE) : FnE := fun ρ => bnd (src ρ) fun ds => match mapG b tst elt (capG m cs ρ) ds with
  | some ys => if ys.length ≤ 100000 ∧ ds.length ≤ 100000 then some (.ok (.lst ys)) else none
  | none => none
theorem keyG {m : Nat} {cs : List (Str × Nat)} {src : FnA} {b : Dv → Ev → Option Ev} {tst : Option FnB} {fe : FnE} {ρ : Ev} {o : Rs Dv} (h : fCompG m cs src b tst fe ρ = some o) :
    (∃ c, src ρ = some (.exc c) ∧ o = .exc c) ∨ ∃ ds ys, src ρ = some (.ok ds) ∧ mapG b tst fe (capG m cs ρ) ds = some ys ∧ ds.length ≤ 100000 ∧ ys.length ≤ 100000 ∧ o = .ok (.lst ys) := by
  unfold fCompG at h
  match hf : src ρ with
  | none => rw [hf] at h; cases h
  | some (.exc c) => rw [hf] at h; cases h; exact .inl ⟨c, rfl, rfl⟩
  | some (.ok ds) =>
    rw [hf] at h
    dsimp only [bnd] at h
    match hm : mapG b tst fe (capG m cs ρ) ds with
    | none => rw [hm] at h; cases h
    | some ys =>
      rw [hm] at h
      dsimp only at h
      split at h
      · rename_i hl
        cases h
        exact .inr ⟨ds, ys, rfl, hm, hl.2, hl.1, rfl⟩
      · cases h
theorem fe_compG {X : Cx} {tg elt iter : Expr} {ifs : List Expr} {scope : Scope} {pos : Pos} {src : FnA} {tst : Option FnB} {fe : FnE} {b : Dv → Ev → Option Ev} (osc : Scope) (N ns : List Str) (js : List Nat) (cs : List (Str × Nat)) (hosc : X.env.scope = osc) (hN : X.N = N) (ok : CompOkG osc scope cs N) (hcl : closureFor scope X.env = pure (clOf scope.names X.env [])) (hc : X.calm = true)
    (hback : ∀ ρ d ρ', b d (capG ns.length cs ρ) = some ρ' → fgt js ρ' = capG ns.length cs ρ)
    (hi : FIG X tg iter src) (htg : ∀ C s H fp, FG (compCx X (ns ++ cs.map (·.1)) scope C s H fp) tg b) (helt : ∀ C s H fp, FE (compCx X (ns ++ cs.map (·.1)) scope C s H fp) elt fe) (hifs : ∀ C s H fp, FIfs (compCx X (ns ++ cs.map (·.1)) scope C s H fp) ifs tst)
    (hs : ∀ x, foldedSetIterable iter X.env x = pure x := by intro _; kernel_rfl) : FE X (.ListComp elt [⟨tg, iter, ifs, 0⟩] scope pos) (fCompG ns.length cs src b tst fe) := by
  subst hosc hN
  constructor
  intro pins s σ H Q I h
  obtain ⟨ρ, E, o⟩ := h
  match ho : fCompG ns.length cs src b tst fe ρ with
  | none => rw [ho] at o; exact o.elim
  | some r =>
    rw [ho] at o
    rw [eval_ListComp]
    have key : OutG X H (src ρ) fun J H' => ∃ ds ys, Same H H' ∧ WkG X.K J ds H' ∧ ds.length ≤ 100000 ∧ ys.length ≤ 100000 ∧ mapG b tst fe (capG ns.length cs ρ) ds = some ys ∧ (∀ v H'', Same H' H'' → Rep X.K H'' (.lst ys) v → Q v H'') := by
      rcases keyG ho with ⟨c, e1, e2⟩ | ⟨ds, ys, e1, e2, l1, l2, e3⟩
      · subst e2; rw [e1]; exact o
      · subst e3; rw [e1]; exact fun J H' e wk => ⟨ds, ys, e, wk, l1, l2, e2, fun v H'' e2 r => o v H'' (e.trans e2) r⟩
    refine wpAny_comprehension_free (use := none) rfl hs hcl ok.kind ok.names (thn (hi.h pins s σ H _ I ⟨ρ, E, key⟩) fun v s1 h1 => thn h1 fun itv s2 h2 => ?_)
    obtain ⟨it, fp, tn, J, H2, e, I2, T, st2, f2, ds, ys, e12, wk, hdl, hyl, hm, hQ⟩ := h2
    subst e
    refine comp_core cs ok hc htg helt hifs hback (E.mono e12) I2 T st2 f2 wk hdl hyl hm (RR := fun acc C => compPost (model X.prog X.w) X.A X.xe none (EP X pins σ Q) acc C) fun D C s6 H5 vs m6 I6 D5 e5 r5 n6 C6 CD hC => ?_
    refine ⟨m6, n6, fun h7 sb7 => ?_⟩
    have Cn : (upd H5 D (.lst vs)) C = none := by rw [upd_ne CD]; exact C6
    obtain ⟨q0, q1, q2, q3, q4, q5⟩ := I2.fpOk hC Cn
    have I7 : Inv X pins σ (upd H5 D (.lst vs)) { s6 with heap := h7 } := I6.turned (t' := s6.toks) (fun b o hb e => sb7.extBut b o hb e) q0 q1 q3 q4 q5
    exact ⟨.ref D, _, I7, rfl, hQ _ _ (e5.trans (same_new D5 _)) ⟨D, vs, rfl, upd_same, Reps.mono (same_new D5 _) _ _ r5⟩⟩
theorem back1 (cs : List (Str × Nat)) (ρ : Ev) (d : Dv) (ρ' : Ev) (h : gN 0 d (capG 1 cs ρ) = some ρ') : fgt [0] ρ' = capG 1 cs ρ := by
  cases h
  rfl
theorem back2 (cs : List (Str × Nat)) (ρ : Ev) (d : Dv) (ρ' : Ev) (h : gP 0 1 d (capG 2 cs ρ) = some ρ') : fgt [0, 1] ρ' = capG 2 cs ρ := by
  unfold gP at h
  split at h
  · cases h
    rfl
  · cases h
def Ite (K : PySem.W.Frag) (a : Addr) : It :=
  ⟨fun i H => ∃ xs x, SqL K H a xs ∧ xs[i]? = some x, fun i H v H' => ∃ p x, v = .ref p ∧ H p = none ∧ H' = upd H p (.tup [.int i, x]) ∧ ∀ xs, SqL K H a xs → xs[i]? = some x, fun i H => ∃ xs, SqL K H a xs ∧ xs.length ≤ i⟩
theorem turn_enum {P : Program} {w : World} {K : PySem.W.Frag} {es : List Expr} {k : Nat} {pos : Pos} (a e it : Addr) (hne : e ≠ it) : Turn P w K (.Tuple es k pos) (Ite K a) [e, it] e (fun i h => (∃ old, IsEnum h e it i old) ∧ h.IsListIter it a i) where
  mem := by simp
  obj := fun i h st b hb => by
    obtain ⟨⟨old, he⟩, o, e2, c, d⟩ := st
    have hb' : b = e ∨ b = it := by simpa using hb
    rcases hb' with rfl | rfl
    · exact ⟨_, he, fun v z => by cases z⟩
    · exact ⟨o, e2, fun v z => by rw [d] at z; cases z⟩
  keep := fun i h h' st kk => by
    obtain ⟨⟨old, he⟩, st2⟩ := st
    exact ⟨⟨old, kk e (by simp) _ he⟩, st2.at fun o ee => kk it (by simp) o ee⟩
  item := by
    intro X hP hw hK hc i pins s σ H E I hf st hg
    subst hP hw hK
    obtain ⟨xs, x, hq, hx⟩ := hg
    obtain ⟨its, rv, p, hz⟩ := I.list hq
    obtain ⟨u, hu, ru⟩ := rv.get hx
    obtain ⟨⟨old, he⟩, st2⟩ := st
    obtain ⟨f0, f1, f2, f3, f4, f5⟩ := hf e (by simp)
    obtain ⟨g0, g1, g2, g3, g4, g5⟩ := hf it (by simp)
    refine wpAny_pyNext_enum_item he st2 p.isList (x := u) (by simpa using hu) hne fun h' eo st' tp sz kk => ?_
    refine ⟨_, rfl, wpAny_letOwnedTupleGo_enum eo fun h2 he2 sb2 => ?_⟩
    have hp : H s.heap.objs.size = none := I.hok.fresh (Nat.le_refl _)
    have elt : e < s.heap.objs.size := Heap.lt_size he
    have k2 : ∀ b o, b ∉ [e, it] → s.heap.get? b = some o → h2.get? b = some o := fun b o hb q => sb2.extBut b o (fun z => hb (by simp [z])) (kk b o (fun z => hb (by simp [z])) (fun z => hb (by simp [z])) q)
    have tp2 : h2.get? s.heap.objs.size = some { cls := .type "tuple", data := .seq #[.int i s.toks, u] } := sb2.extBut _ _ (Nat.ne_of_gt elt) tp
    have I1 : Inv X pins σ (upd H s.heap.objs.size (.tup [.int i, x])) { s with heap := h2, toks := s.toks + 1 } := by
      have nt : ∀ b u, H b = some u → b ∉ [e, it] := fun b u q z => by
        have z' : b = e ∨ b = it := by simpa using z
        rcases z' with rfl | rfl
        · rw [f0] at q; cases q
        · rw [g0] at q; cases q
      refine I.step (g' := s.gens) (d' := s.drawn) (ch := [e, it]) (fun b hb => ?_) (fun b o _ _ hcb q _ => k2 b o hcb q) (fun b o _ _ hcb q _ => ⟨o.slots, k2 b o hcb q⟩) (fun b o hcb q n => ?_) (fun b o hcb q => ⟨o, k2 b o hcb q⟩)
        (fun b ys q => by rw [upd_ne (ne_of_none q hp)]; exact q) (fun b o ys q => by rw [upd_ne (ne_of_none q hp)]; exact q) (fun b ps q => ⟨#[], by rw [upd_ne (ne_of_none q hp), q]; simp⟩) (fun m hm => ?_) (fun b u2 q => ?_) I.bare
      · have z' : b = e ∨ b = it := by simpa using hb
        rcases z' with rfl | rfl
        · exact ⟨f3, f1, f4, f5⟩
        · exact ⟨g3, g1, g4, g5⟩
      · rw [upd_ne (Nat.ne_of_lt (Heap.lt_size q))]; exact n
      · obtain ⟨o, es', ep, ho, r⟩ := hm
        exact ⟨o, es', ep, k2 _ o (fun z => by
          have z' : X.env.locals = e ∨ X.env.locals = it := by simpa using z
          rcases z' with z' | z'
          · exact f1 z'.symm
          · exact g1 z'.symm) ho, r⟩
      · by_cases hb : b = s.heap.objs.size
        · subst hb
          rw [upd_same] at q
          cases q
          exact ⟨by show 2 ≤ sizeLine; decide, [.int i s.toks, u], .cons ⟨_, rfl⟩ (.cons ru .nil), ⟨_, tp2, rfl, _, rfl⟩⟩
        · rw [upd_ne hb] at q
          refine (I.hok b u2 q).stay (fun c v hcv qq => k2 c v ?_ qq) (fun c qq => by rw [upd_ne (ne_of_none qq hp)]; exact qq) fun c ys qq => by rw [upd_ne (ne_of_none qq hp)]; exact qq
          rcases hcv with rfl | hcv
          · exact nt _ _ q
          · exact nt _ _ hcv
    refine ⟨.ref s.heap.objs.size, _, I1, rfl, ⟨_, x, rfl, hp, rfl, fun zs hy => by rw [I.list_inj hy hq]; exact hx⟩, ⟨⟨_, by simpa using he2⟩, ?_⟩, fun b hb => ?_⟩
    · exact st'.at fun o q => sb2.extBut _ _ (Ne.symm hne) q
    · have z' : b = e ∨ b = it := by simpa using hb
      rcases z' with rfl | rfl
      · rw [upd_ne (Nat.ne_of_lt elt)]; exact f0
      · obtain ⟨o, q, _⟩ := id st2
        rw [upd_ne (Nat.ne_of_lt (Heap.lt_size q))]; exact g0
  done := by
    intro X hP hw hK hc i pins s σ H E I hf st hg
    subst hP hw hK
    obtain ⟨xs, hq, hx⟩ := hg
    obtain ⟨its, rv, p, hz⟩ := I.list hq
    obtain ⟨⟨old, he⟩, st2⟩ := st
    obtain ⟨g0, g1, g2, g3, g4, g5⟩ := hf it (by simp)
    have hl := rv.length
    exact wpAny_pyNext_enum_end (I.ok.hd hc) he st2 p.isList (by simp; omega) fun h' eb => ⟨rfl, I.turned (t' := s.toks) (fun b o hb e => eb b o hb e) g0 g1 g3 g4 g5⟩
  self := fun _ _ _ _ _ st h => by
    obtain ⟨⟨old, he⟩, _⟩ := st
    exact wpAny_pyIter_enum he h
def enumL : Nat → List Dv → List Dv
  | _, [] => []
  | k, d :: ds => .tup [.int k, d] :: enumL (k + 1) ds
theorem enumL_length : ∀ (ds : List Dv) (k : Nat), (enumL k ds).length = ds.length
  | [], _ => rfl
  | d :: ds, k => by show (enumL (k + 1) ds).length + 1 = ds.length + 1; rw [enumL_length]
theorem enumL_get : ∀ (ds : List Dv) (k i : Nat) (d : Dv), ds[i]? = some d → (enumL k ds)[i]? = some (.tup [.int ((k + i : Nat) : Int), d])
  | [], _, _, _, h => by simp at h
  | d :: ds, k, 0, d', h => by simp at h; subst h; rfl
  | d :: ds, k, i + 1, d', h => by
    have q := enumL_get ds (k + 1) i d' (by simpa using h)
    show (Dv.tup [.int k, d] :: enumL (k + 1) ds)[i + 1]? = _
    rw [List.getElem?_cons_succ, q]
    have e : k + 1 + i = k + (i + 1) := by omega
    rw [e]
theorem wk_enum {K : PySem.W.Frag} {H : Hp} {a : Addr} {xs : List V} {ds : List Dv} (h : H a = some (.lst xs)) (r : Reps K H ds xs) : WkG K (Ite K a) (enumL 0 ds) H where
  go := fun i H' e hi => by
    rw [enumL_length] at hi
    have hx : i < xs.length := by rw [r.length]; exact hi
    exact ⟨xs, xs[i], SqL.of (e _ _ h), by simp [hx]⟩
  stop := fun H' e => ⟨xs, SqL.of (e _ _ h), by rw [r.length, enumL_length]; exact Nat.le_refl _⟩
  yld := fun i H' v H2 e hi y => by
    obtain ⟨p, x, rfl, hp, rfl, y⟩ := y
    obtain ⟨d, h1, h2⟩ := Reps.get (Reps.mono e _ _ r) (y xs (SqL.of (e _ _ h)))
    have q := enumL_get ds 0 i d h1
    rw [Nat.zero_add] at q
    exact ⟨same_new hp _, _, q, ⟨p, _, rfl, upd_same, ⟨.int i, [x], rfl, rfl, x, [], rfl, Rep.mono (same_new hp _) _ _ h2, rfl⟩⟩⟩
def enumD : List Dv → Option (Rs (List Dv))
  | [.lst ds] => some (.ok (enumL 0 ds))
  | _ => none
theorem fig_enum {X : Cx} {es : List Expr} {k : Nat} {pt p pos : Pos} {l : Expr} {ga : FnA} (hg : Gl X "enumerate") (hm : X.mg "enumerate" = none) (ha : FA X [l] ga) (hs : starEach [l] X.env = [(false, eval l X.env)] := by kernel_rfl) : FIG X (.Tuple es k pt) (.Call (.Name "enumerate" p) [l] [] pos) (fun ρ => bnd (ga ρ) enumD) := by
  constructor
  intro pins s σ H R I h
  obtain ⟨ρ, E, o⟩ := h
  have key : OutA X H (ga ρ) fun vs H' => ∃ ds, Reps X.K H' ds vs ∧ OutG X H' (enumD ds) R := by
    match hf : ga ρ, o with
    | some (.exc c), o => exact o
    | some (.ok ds), o => exact fun vs H' e rs => ⟨ds, rs, OutG.mono e o⟩
  refine Call_ (ld_blt I hg hm (show bootBuiltins "enumerate" = some (.type "enumerate") by decide +kernel) (PyProof.Rows.callWith_type1 (thn (ha.h pos pins s σ H _ I ⟨ρ, E, key⟩) fun us s1 ⟨vs, H1, I1, r1, ds, rs, q1⟩ => ?_) hs rfl))
  unfold enumD at q1
  split at q1
  · rename_i xs
    obtain ⟨v, rfl, rv⟩ := reps1 rs
    obtain ⟨a, ws, rfl, h1, h2⟩ := rv.lstE
    obtain ⟨u, rfl, ru⟩ := vals1 r1
    cases ru
    obtain ⟨its, rv', pl, hz⟩ := I1.list (SqL.of h1)
    refine call_enumerate_list pl.isList fun h' he hit hsz kk => ?_
    refine wpAny_pyIter_enum he ?_
    have I2 : Inv X pins σ H1 { s1 with heap := h' } := I1.kept (t' := s1.toks) kk
    refine ⟨s1.heap.objs.size + 1, [s1.heap.objs.size + 1, s1.heap.objs.size], _, Ite X.K a, H1, rfl, I2, turn_enum a _ _ (Nat.succ_ne_self _), ⟨⟨_, he⟩, hit⟩, fun b hb => ?_, q1 _ H1 (.refl H1) (wk_enum h1 h2)⟩
    have hb' : b = s1.heap.objs.size + 1 ∨ b = s1.heap.objs.size := by simpa using hb
    rcases hb' with rfl | rfl
    · exact I1.fpOk (Nat.le_succ _) (I1.hok.fresh (Nat.le_succ _))
    · exact I1.fpOk (Nat.le_refl _) (I1.hok.fresh (Nat.le_refl _))
  · exact q1.elim
end FD
namespace FD
open PySem PySem.Spec PyProof.Rows L2
section
variable {X : Cx} {pos p1 : Pos}
end
theorem fSeq_nx {a b : FnS} {ρ ρ' : Ev} (h : a ρ = some (.nx ρ')) : fSeq a b ρ = b ρ' := by
  unfold fSeq; rw [h]; rfl
theorem fSeq_rt {a b : FnS} {ρ : Ev} {d : Dv} (h : a ρ = some (.rt d)) : fSeq a b ρ = some (.rt d) := by
  unfold fSeq; rw [h]; rfl
theorem ifS_skip {c : FnB} {f : FnS} {ρ : Ev} (h : c ρ = some (.ok false)) : fIfS c f (fun ρ => some (.nx ρ)) ρ = some (.nx ρ) := by
  unfold fIfS; rw [h]; rfl
theorem fSet_nx {i : Nat} {v : FnE} {ρ ρ' : Ev} {d : Dv} (h : v ρ = some (.ok d)) (e : ρ.set i (some d) = ρ') : fSet i v ρ = some (.nx ρ') := by
  unfold fSet; rw [h, ← e]; rfl
theorem fRet_rt {v : FnE} {ρ : Ev} {d : Dv} (h : v ρ = some (.ok d)) : fRet v ρ = some (.rt d) := by
  unfold fRet; rw [h]; rfl
theorem fFor_of {i : Nat} {js : List Nat} {src : FnA} {body : FnS} {ρ : Ev} {ds : List Dv} (h : src ρ = some (.ok ds)) : fFor i js src body ρ = loopF i js body ds ρ := by
  unfold fFor; rw [h]; rfl
theorem bOr_F {a b : FnB} {ρ : Ev} (h : a ρ = some (.ok false)) : bOr a b ρ = b ρ := by unfold bOr; rw [h]; rfl
theorem bAnd_T {a b : FnB} {ρ : Ev} (h : a ρ = some (.ok true)) : bAnd a b ρ = b ρ := by unfold bAnd; rw [h]; rfl
theorem bAnd_F {a b : FnB} {ρ : Ev} (h : a ρ = some (.ok false)) : bAnd a b ρ = some (.ok false) := by unfold bAnd; rw [h]; rfl
theorem bNot_of {a : FnB} {ρ : Ev} {k : Bool} (h : a ρ = some (.ok k)) : bNot a ρ = some (.ok (!k)) := by unfold bNot; rw [h]; rfl
theorem fB_of {f : FnE} {ρ : Ev} {k : Bool} (h : f ρ = some (.ok (.bl k))) : fB f ρ = some (.ok k) := by unfold fB; rw [h]; rfl
theorem f2_of {g : Dv → Dv → Option (Rs Dv)} {f h : FnE} {ρ : Ev} {x y : Dv} (hf : f ρ = some (.ok x)) (hh : h ρ = some (.ok y)) : f2 g f h ρ = g x y := by unfold f2; rw [hf, hh]; rfl
theorem aCons_of {f : FnE} {g : FnA} {ρ : Ev} {x : Dv} {xs : List Dv} (h : f ρ = some (.ok x)) (t : g ρ = some (.ok xs)) : aCons f g ρ = some (.ok (x :: xs)) := by unfold aCons; rw [h, t]; rfl
theorem aNil_of {ρ : Ev} : aNil ρ = some (.ok []) := rfl
theorem fCall_of {F : List Dv → Option (Rs Dv)} {n : Nat} {g : FnA} {ρ : Ev} {ds : List Dv} {d : Dv} (h : g ρ = some (.ok ds)) (hl : ds.length = n) (hF : F ds = some (.ok d)) : fCall F n g ρ = some (.ok d) := by
  unfold fCall; rw [h]
  show (if _ then _ else _) = _
  rw [if_pos hl, hF]
theorem call1 (F : List Dv → Option (Rs Dv)) {f : FnE} {ρ : Ev} {a d : Dv} (h : f ρ = some (.ok a)) (hF : F [a] = some (.ok d)) : fCall F 1 (aCons f aNil) ρ = some (.ok d) := fCall_of (aCons_of h aNil_of) rfl hF
theorem call2 (F : List Dv → Option (Rs Dv)) {f g : FnE} {ρ : Ev} {a b d : Dv} (h : f ρ = some (.ok a)) (h' : g ρ = some (.ok b)) (hF : F [a, b] = some (.ok d)) : fCall F 2 (aCons f (aCons g aNil)) ρ = some (.ok d) := fCall_of (aCons_of h (aCons_of h' aNil_of)) rfl hF
theorem fTup_of {g : FnA} {ρ : Ev} {ds : List Dv} (h : g ρ = some (.ok ds)) (hl : ds.length ≤ 100000) : fTup g ρ = some (.ok (.tup ds)) := by
  unfold fTup; rw [h]
  show (if _ then _ else _) = _
  rw [if_pos hl]
theorem fB1_of {g : List Dv → Option (Rs Dv)} {a : FnA} {ρ : Ev} {ds : List Dv} (h : a ρ = some (.ok ds)) : fB1 g a ρ = g ds := by unfold fB1; rw [h]; rfl
theorem fIf_T {c : FnB} {f g : FnE} {ρ : Ev} (h : c ρ = some (.ok true)) : fIf c f g ρ = f ρ := by unfold fIf; rw [h]; rfl
theorem fIf_F {c : FnB} {f g : FnE} {ρ : Ev} (h : c ρ = some (.ok false)) : fIf c f g ρ = g ρ := by unfold fIf; rw [h]; rfl
theorem fLst_of {g : FnA} {ρ : Ev} {ds : List Dv} (h : g ρ = some (.ok ds)) (hl : ds.length ≤ 100000) : fLst g ρ = some (.ok (.lst ds)) := by
  unfold fLst; rw [h]
  show (if _ then _ else _) = _
  rw [if_pos hl]
theorem run_rt {n : Nat} {B : FnS} {ds : List Dv} {d : Dv} (h : B (ds.map some ++ List.replicate (n - ds.length) none) = some (.rt d)) : runF n B ds = some (.ok d) := by
  unfold runF; rw [h]
end FD
namespace FD
open PySem PySem.Spec PyProof.Rows L2
section
variable {prog : Program} {w : World} {A : Around} {E : Value → Shared → Prop}
end
section
variable {X : Cx} {pos p1 : Pos}
end
end FD
namespace FD
open PySem PySem.Spec PyProof.Rows L2
structure Aft (X : Cx) (e : Addr) (Ts : List Addr) (h h' : Heap) : Prop where
  keep : ∀ b o, h.get? b = some o → b ≠ e → b ∉ Ts → b ∉ frs X.stack → h'.get? b = some o
  slot : ∀ b o, h.get? b = some o → b ∈ frs X.stack → ∃ sl, h'.get? b = some { o with slots := sl }
section
variable {X : Cx} {pins : List (Addr × Obj)} {σ : L2.St} {H : Hp} {s : Shared} {e : Addr} {Ts : List Addr} {h' : Heap}
theorem Aft.any {h : Heap} (A : Aft X e Ts h h') {b : Addr} {o : Obj} (q : h.get? b = some o) (n1 : b ≠ e) (n2 : b ∉ Ts) : ∃ sl, h'.get? b = some { o with slots := sl } := by
  by_cases hb : b ∈ frs X.stack
  · exact A.slot b o q hb
  · exact ⟨o.slots, A.keep b o q n1 n2 hb⟩
theorem Inv.aft (I : Inv X pins σ H s) (A : Aft X e Ts s.heap h') (hex : X.ex = []) (hf : ∀ b, b = e ∨ b ∈ Ts → H b = none ∧ X.s₀.heap.get? b = none ∧ (∀ p ∈ X.pn ++ pins, p.1 ≠ b) ∧ ∃ o vs, s.heap.get? b = some o ∧ o.data = .fields vs) :
    Inv X pins σ H { s with heap := h' } := by
  have nE : ∀ b, H b ≠ none → b ≠ e ∧ b ∉ Ts := fun b hb => ⟨fun z => hb (hf b (.inl z)).1, fun z => hb (hf b (.inr z)).1⟩
  have n0 : ∀ b o, X.s₀.heap.get? b = some o → b ≠ e ∧ b ∉ Ts := fun b o hb => ⟨fun z => (by simp : (some o : Option Obj) ≠ none) (hb.symm.trans (hf b (.inl z)).2.1), fun z => (by simp : (some o : Option Obj) ≠ none) (hb.symm.trans (hf b (.inr z)).2.1)⟩
  have nx : ∀ b, b ∉ X.ex := fun b => by rw [hex]; simp
  have nD : ∀ b o, s.heap.get? b = some o → (∀ vs, o.data ≠ .fields vs) → b ≠ e ∧ b ∉ Ts := fun b o hb hd =>
    have go : (b = e ∨ b ∈ Ts) → False := fun z => by
      obtain ⟨o', vs, q, d⟩ := (hf b z).2.2.2
      rw [hb] at q
      cases q
      exact hd vs d
    ⟨fun z => go (.inl z), fun z => go (.inr z)⟩
  have nS : ∀ b ∈ frs X.stack, H b = none := I.stkFree
  have cellK : ∀ c v, s.heap.IsCell c v → h'.IsCell c v := fun c v ⟨o, ho, hd⟩ => by
    obtain ⟨n1, n2⟩ := nD c o ho fun vs q => by rw [hd] at q; cases q
    obtain ⟨sl, q⟩ := A.any ho n1 n2
    exact ⟨_, q, hd⟩
  refine ⟨I.ok, I.os, I.bare, ⟨fun b o q n hb hx => ?_, fun b o q n hb hx => ?_, I.base.free, fun b o q hx => ?_, I.base.tups, I.base.frzs, I.base.tbls⟩, ?_, fun x c q => ?_, I.free, I.freeC, fun p hp => ?_, fun a o q => ?_, I.len⟩
  · have h1 := I.base.keep b o q n hb hx
    obtain ⟨n1, n2⟩ := n0 b o q
    refine A.keep b o h1 n1 n2 fun z => ?_
    rcases List.mem_cons.mp (I.stkSub b z) with z | z
    · exact absurd z (Nat.ne_of_lt (Nat.lt_of_lt_of_le (Heap.lt_size q) I.ok.above))
    · exact hb z
  · obtain ⟨sl, h1⟩ := I.base.slot b o q n hb hx
    obtain ⟨n1, n2⟩ := n0 b o q
    obtain ⟨sl', h2⟩ := A.any h1 n1 n2
    exact ⟨sl', h2⟩
  · obtain ⟨o', h1⟩ := I.base.there b o q hx
    obtain ⟨n1, n2⟩ := n0 b o q
    obtain ⟨sl, h2⟩ := A.any h1 n1 n2
    exact ⟨_, h2⟩
  · obtain ⟨m, ⟨o, es, ep, ho, hd, r⟩, hl⟩ := I.loc
    obtain ⟨n1, n2⟩ := nD _ o ho fun vs q => by rw [hd] at q; cases q
    obtain ⟨sl, q⟩ := A.any ho n1 n2
    refine ⟨m, ⟨_, es, ep, q, hd, r⟩, fun i x v e1 e2 e3 => ?_⟩
    obtain ⟨u, ru, l⟩ := hl i x v e1 e2 e3
    refine ⟨u, ru, ?_⟩
    rcases l with l | ⟨k, c, ec, z⟩
    · exact .inl l
    · exact .inr ⟨k, c, ec, cellK c _ z⟩
  · obtain ⟨v, z⟩ := I.cell x c q
    exact ⟨v, cellK c v z⟩
  · obtain ⟨q, n, ne, nf, d⟩ := I.pin p hp
    have n1 : p.1 ≠ e := (hf e (.inl rfl)).2.2.1 p hp
    have n2 : p.1 ∉ Ts := fun z => (hf p.1 (.inr z)).2.2.1 p hp rfl
    refine ⟨A.keep p.1 p.2 q n1 n2 fun z => ?_, n, ne, nf, d⟩
    rcases List.mem_cons.mp (I.stkSub _ z) with z | z
    · exact ne z
    · exact nf z
  · refine (I.hok a o q).stay (fun b u hb hu => ?_) (fun _ z => z) fun _ _ z => z
    have hn : H b ≠ none := by
      rcases hb with rfl | hb
      · rw [q]; simp
      · rw [hb]; simp
    exact A.keep b u hu (nE b hn).1 (nE b hn).2 fun z => hn (nS b z)
abbrev hid (X : Cx) (e : Addr) (Ts : List Addr) (h : Heap) : Heap := PySem.W.hideAll h (e :: (Ts ++ frs X.stack))
theorem aft_of (I : Inv X pins σ H s) (k : (hid X e Ts s.heap).StaysIn h') (u : ∀ b o, s.heap.get? b = some o → (∀ vs, o.data ≠ .fields vs) → ∃ sl, h'.get? b = some { o with slots := sl }) : Aft X e Ts s.heap h' :=
  ⟨fun b o q n1 n2 n3 => k b o (PySem.W.hideAll_get _ q (by simp only [List.mem_cons, List.mem_append]; rintro (z | z | z); exact n1 z; exact n2 z; exact n3 z)), fun b o q hb => by
    obtain ⟨_, o', q', d⟩ := I.stack.mem hb
    rw [q] at q'
    cases q'
    exact u b o q d⟩
theorem hid_fun (I : Inv X pins σ H s) : s.heap.FunFrames (hid X e Ts s.heap) X.stack :=
  PySem.W.funFrames_hide I.stack fun env he a hfa => List.mem_cons_of_mem _ (List.mem_append_right _ (List.mem_filterMap.mpr ⟨env, he, hfa⟩))
end
end FD
namespace FD
open PySem PySem.Spec PyProof.Rows L2
section
variable {X : Cx} {pins : List (Addr × Obj)} {σ : L2.St} {H : Hp} {s : Shared} {e : Addr} {cls : Value}
theorem Fly.imp {N N' : Addr → Prop} {h : Heap} (F : Fly N H e cls h) (k : ∀ a, N a → N' a) : Fly N' H e cls h := by
  obtain ⟨h1, h2, oe, vs, a0, q1, q2, q3, q4, q5⟩ := F
  refine ⟨h1, k _ h2, oe, vs, a0, q1, q2, q3, q4, ?_⟩
  rcases q5 with q5 | ⟨T, oT, ts, r1, r2, r3, r4, r5⟩
  · exact .inl q5
  · exact .inr ⟨T, oT, ts, r1, r2, r3, k _ r4, r5⟩
theorem new_of {h' : Heap} {Ts : List Addr} (I : Inv X pins σ H s) (hex : X.ex = []) (he : H e = none ∧ X.s₀.heap.get? e = none) (hT : ∀ T ∈ Ts, H T = none ∧ X.s₀.heap.get? T = none) (ff : h'.FunFrames (hid X e Ts s.heap) X.stack)
    {T : Addr} {oT : Obj} {ts : Array Value} (hn : (hid X e Ts s.heap).get? T = none) (ne : T ≠ e) (hg : h'.get? T = some oT) (hd : oT.data = .fields ts) : H T = none ∧ X.s₀.heap.get? T = none := by
  have nf : T ∉ frs X.stack := fun z => by
    obtain ⟨_, o, q, d⟩ := ff.mem z
    rw [hg] at q
    cases q
    exact d ts hd
  have out : T ∈ Ts ∨ s.heap.get? T = none := by
    cases q : s.heap.get? T with
    | none => exact .inr rfl
    | some o =>
      by_cases hm : T ∈ Ts
      · exact .inl hm
      · have := PySem.W.hideAll_get (e :: (Ts ++ frs X.stack)) q (by simp only [List.mem_cons, List.mem_append]; rintro (z | z | z); exact ne z; exact hm z; exact nf z)
        rw [hn] at this
        cases this
  rcases out with hm | hm
  · exact hT T hm
  · constructor
    · cases q : H T with
      | none => rfl
      | some u =>
        have hk := I.hok T u q
        exfalso
        have : ∃ o, s.heap.get? T = some o := by
          clear q
          induction u with
          | lst xs => obtain ⟨_, _, _, _, z⟩ := hk; exact ⟨_, z⟩
          | tup xs => obtain ⟨_, _, _, o, z, _⟩ := hk; exact ⟨_, z⟩
          | dK kvs => obtain ⟨_, _, _, _, o, _, _, z, _⟩ := hk; exact ⟨_, z⟩
          | dT kvs => obtain ⟨_, _, _, _, o, _, _, z, _⟩ := hk; exact ⟨_, z⟩
          | set S n => obtain ⟨o, _, _, _, z, _⟩ := hk; exact ⟨_, z⟩
          | ins C dx fs => obtain ⟨_, _, _, z, _⟩ := hk; exact ⟨_, z⟩
          | own y => obtain ⟨_, z⟩ := hk; exact ⟨_, z⟩
          | xd fs => obtain ⟨_, ⟨_, _, _, z, _⟩, _⟩ := hk; exact ⟨_, z⟩
          | rng lo hi => obtain ⟨_, _, _, z⟩ := hk; exact ⟨_, z⟩
          | frz ob u ih => obtain ⟨z, _⟩ := hk; exact ⟨_, z⟩
          | tbl ps => exact ⟨_, (show s.heap.get? T = some _ from hk)⟩
          | met f y => exact ⟨_, (show s.heap.get? T = some _ from hk)⟩
          | ext φ => obtain ⟨_, ⟨_, z⟩, _⟩ := hk; exact ⟨_, z⟩
        obtain ⟨o, z⟩ := this
        rw [hm] at z
        cases z
    · cases q : X.s₀.heap.get? T with
      | none => rfl
      | some o =>
        obtain ⟨o', z⟩ := I.base.there T o q (by rw [hex]; simp)
        rw [hm] at z
        cases z
theorem leave_fly (I : Inv X pins σ H s) (hex : X.ex = []) (hst : X.stack = X.env :: X.outer) (hfm : X.env.frame = some X.env.locals) (F : Fly (fun a => X.s₀.heap.get? a = none) H e cls s.heap)
    {Q : Unit → Shared → Prop} {E : Value → Shared → Prop} (k : ∀ h' Ts, Fly (fun a => X.s₀.heap.get? a = none) H e cls h' → Aft X e Ts s.heap h' → (∀ b, b = e ∨ b ∈ Ts → H b = none ∧ X.s₀.heap.get? b = none ∧ ∃ o vs, s.heap.get? b = some o ∧ o.data = .fields vs) → Q () { s with heap := h' }) :
    wpAny (model X.prog X.w) X.A (leaving X.env (.ref e)) Q E s := by
  obtain ⟨f1, f2, oe, vs, a0, q1, q2, q3, q4, q5⟩ := F
  have hfr : X.A.frames = some (X.env :: X.outer) := hst ▸ I.ok.frames
  subst q2
  rcases q5 with q5 | ⟨T, oT, ts, r1, r2, r3, r4, r5, r6, r7⟩
  · have b3 : s.heap.FunFrames (hid X e [] s.heap) (X.env :: X.outer) := hst ▸ hid_fun I
    refine wpAny_leaving_firstW (base := hid X e [] s.heap) hfr b3 hfm q1 (fun b o z => PySem.W.of_hideAll _ z) (PySem.W.hideAll_none _ (List.mem_cons_self ..)) q3 q5 q4 fun h' hL => ?_
    obtain ⟨k1, k2, ⟨oe', vs', T, oT, ts, t1, ⟨t2, t3⟩, t4, t5, t6, t7, t8, t9, t10⟩, k4⟩ := hL
    have k2' : h'.FunFrames (hid X e [] s.heap) X.stack := hst ▸ k2
    have nT := new_of I hex ⟨f1, f2⟩ (fun _ z => absurd z (by simp)) k2' t6 t7 t8 t9
    refine k h' [] ⟨f1, f2, oe', vs', a0, t1, t2, t4, t3, .inr ⟨T, oT, ts, t5, t7, nT.1, nT.2, t8, t9, t10⟩⟩ (aft_of I k1 k4) fun b hb => ?_
    rcases hb with rfl | hb
    · exact ⟨f1, f2, oe, vs, q1, q3⟩
    · cases hb
  · have b3 : s.heap.FunFrames (hid X e [T] s.heap) (X.env :: X.outer) := hst ▸ hid_fun I
    have ht : s.heap.TracedW (hid X e [T] s.heap) e oe.cls a0 := ⟨oe, vs, T, oT, ts, q1, ⟨rfl, q4⟩, q3, r1, PySem.W.hideAll_none _ (by simp), r2, r5, r6, r7⟩
    refine wpAny_leaving_nextW (base := hid X e [T] s.heap) hfr b3 hfm ht (fun b o z => PySem.W.of_hideAll _ z) (PySem.W.hideAll_none _ (List.mem_cons_self ..)) fun h' hL => ?_
    obtain ⟨k1, k2, ⟨oe', vs', T', oT', ts', t1, ⟨t2, t3⟩, t4, t5, t6, t7, t8, t9, t10⟩, k4⟩ := hL
    have k2' : h'.FunFrames (hid X e [T] s.heap) X.stack := hst ▸ k2
    have nT := new_of I hex ⟨f1, f2⟩ (fun T0 z => by simp at z; subst z; exact ⟨r3, r4⟩) k2' t6 t7 t8 t9
    refine k h' [T] ⟨f1, f2, oe', vs', a0, t1, t2, t4, t3, .inr ⟨T', oT', ts', t5, t7, nT.1, nT.2, t8, t9, t10⟩⟩ (aft_of I k1 k4) fun b hb => ?_
    rcases hb with rfl | hb
    · exact ⟨f1, f2, oe, vs, q1, q3⟩
    · simp at hb
      subst hb
      exact ⟨r3, r4, oT, ts, r5, r6⟩
end
def CXE (P : Program) (w : World) : CXT := fun outer H s E ev s' => ∃ e cls H', ev = .ref e ∧ s'.os = s.os ∧ AllBare s'.gens ∧ Un (frs outer) [] H H' s.heap s'.heap ∧ HOk P w H' s'.heap ∧ Fly (fun a => s.heap.get? a = none) H' e cls s'.heap ∧ E cls none H'
def spE (K : PySem.W.Frag) (F : List Dv → Option (Rs Dv)) (n : Nat) : Sp := fun vs H Q E => ∃ ds, Reps K H ds vs ∧ ds.length = n ∧ match F ds with
  | some (.ok d) => ∀ v H', Same H H' → Rep K H' d v → Q v H'
  | some (.exc c) => ∀ C H', PySem.W.nsIn K mainGlobals (xnm c) = some (some (.ref C)) → Same H H' → E (.ref C) none H'
  | none => False
def EX (X : Cx) : XK := fun cv _ H1 => ∃ c C, cv = .ref C ∧ PySem.W.nsIn X.K mainGlobals (xnm c) = some (some (.ref C)) ∧ XW X c H1
theorem passE {X : Cx} (hex : X.ex = []) : Passes (CXE X.prog X.w) X (EX X) := by
  intro pins σ H s ev s' I ⟨e, cls, H', he, os, bare, un, hok, F, c, C, hcv, hC, hx⟩
  have I' : Inv X pins σ H' s' := I.call' (ch := []) os un hok bare fun b z => absurd z (by simp)
  refine hx pins σ H' s' ev (fun _ _ z => z) I' ⟨e, C, he, hC, hcv ▸ F.imp fun a ha => ⟨?_, fun p hp z => ?_⟩⟩
  · cases q : X.s₀.heap.get? a with
    | none => rfl
    | some o =>
      obtain ⟨o', z⟩ := I.base.there a o q (by rw [hex]; simp)
      rw [ha] at z
      cases z
  · have := (I.pin p (List.mem_append_left _ hp)).1
    rw [z, ha] at this
    cases this
def fCallE (F : List Dv → Option (Rs Dv)) (n : Nat) (g : FnA) : FnE := fun ρ => bnd (g ρ) fun ds => if ds.length = n then F ds else none
def HasE (P : Program) (w : World) (K : PySem.W.Frag) (mg : Str → Option Value) (base : Heap) (x : Str) (k : Nat) (ps : List Str) (F : List Dv → Option (Rs Dv)) : Prop :=
  ∃ f fd, FnOk P w K mg base (CXE P w) k f fd ps (spE K F ps.length) ∧ mg x = some (.ref f) ∧ PySem.W.keepIn K (.ref f) = true ∧ Binds K fd ps []
section
variable {X : Cx} {k n : Nat} {ps : List Str} {x : Str} {p pos : Pos} {e : Expr} {es : List Expr} {F : List Dv → Option (Rs Dv)} {g : FnA}
theorem fe_callE {k' : Nat} (k : Nat) (ps : List Str) (F : List Dv → Option (Rs Dv)) (h : HasE X.prog X.w X.K X.mg X.base x k ps F) (hr : Room k' X.A) (hk : k ≤ k') (hex : X.ex = []) (hg : Gl X x) (ha : FA X (e :: es) g) (hn : n = ps.length := by kernel_rfl) (hdb : (x == ("__debug__" : Str)) = false := by kernel_rfl)
    (he : starEach (e :: es) X.env = (false, eval e X.env) :: starEach es X.env := by kernel_rfl) (hpl : (backTo pos (starEach es X.env)).any (·.1) = false := by kernel_rfl) :
    FE X (.Call (.Name x p) (e :: es) [] pos) (fCallE F n g) := by
  subst hn
  obtain ⟨f, fd, G, hm, hkp, hb⟩ := h
  refine fe_of (pe_call (G.mono hk) hr hg hm hkp hb .nil (passE hex) ha.h hdb he hpl) fun σ H Q ρ E o => ⟨ρ, E, OutA.bind o fun ds vs H' e rs o1 => ?_⟩
  show spE X.K F ps.length (vs ++ []) H' Q (EX X)
  rw [List.append_nil]
  by_cases hl : ds.length = ps.length
  · rw [if_pos hl] at o1
    refine ⟨ds, rs, hl, ?_⟩
    match hF : F ds with
    | none => rw [hF] at o1; exact o1.elim
    | some (.ok d) => rw [hF] at o1; exact o1
    | some (.exc c) => rw [hF] at o1; exact fun C H1 hC e1 => ⟨c, C, rfl, hC, XW.mono o1 e1⟩
  · rw [if_neg hl] at o1
    exact o1.elim
end
def runE (m : Nat) (fb : FnS) : List Dv → Option (Rs Dv) := fun ds => match fb (ds.map some ++ List.replicate (m - ds.length) none) with
  | some (.nx _) => some (.ok .non)
  | some (.rt d) => some (.ok d)
  | some (.exc c) => some (.exc c)
  | none => none
theorem xw_of {P : Program} {w : World} {K : PySem.W.Frag} {mg : Str → Option Value} {base : Heap} {N : List Str} {qual : Str} {scope : Scope} {f : Addr} {cd : Value} {A : Around} {outer : List Env} {s : Shared} {H : Hp} {E : XK} {c : Nat}
    (q : ∀ C H', PySem.W.nsIn K mainGlobals (xnm c) = some (some (.ref C)) → Same H H' → E (.ref C) none H') : XW (cxOf (CXE P w) P w K mg base N qual scope f cd A outer s H E) c H := by
  intro pins σ H' s1 ev e1 I ⟨e, C, he, hC, F⟩
  subst he
  have F' : Fly (fun a => s.heap.get? a = none) H' e (.ref C) s1.heap := F.imp fun a ha => ha.1
  refine leave_fly I rfl rfl rfl F' fun h' Ts F2 A2 hf => ?_
  have I2 := Inv.aft (pins := []) (I.pins_of (pins' := []) fun p hp => nomatch hp) A2 rfl fun b hb => ⟨(hf b hb).1, (hf b hb).2.1, fun p hp => absurd (show p ∈ ([] : List (Addr × Obj)) from hp) (by simp), (hf b hb).2.2⟩
  exact ⟨e, .ref C, H', rfl, I.os, I.bare, I2.base, I2.hok, F2, q C H' hC e1⟩
theorem fn_okE {k : Nat} {f : Addr} {fd : FuncData} {x : Str} {P : Program} {w : World} {K : PySem.W.Frag} {mg : Str → Option Value} {base : Heap} {qual : Str} {st : Stmt} {F : List Dv → Option (Rs Dv)} {n : Nat} (N ps : List Str) (fb : FnS) (hF : F = runE N.length fb) (hn : n = ps.length)
    (Fn : Fun K x qual st f fd) (S : FnScope N ps (defScope st))
    (hb : ∀ (cdv : Value) (A : Around) (outer : List Env) (s : Shared) (H : Hp) (E : XK), Room k (A.deeper (envOfC qual (defScope st) s.heap.objs.size f cdv)) → FSs (cxOf (CXE P w) P w K mg base N qual (defScope st) f cdv A outer s H E) (defBody st) fb) :
    FnOk P w K mg base (CXE P w) (k + 1) f fd ps (spE K F n) := by
  subst hF hn
  obtain ⟨oc, od, kV, doc, pm, an, cdv, ct, osl, rfl, lk, hcd⟩ := Fn.ex
  refine fn_of lk hcd S (fun vs H Q E h => ?_) fun A outer s H vs Q E hr h => ?_
  · obtain ⟨ds, r, hl, _⟩ := h
    rw [r.length, hl]
  · obtain ⟨ds, r, hl, q⟩ := h
    refine ⟨_, (hb cdv A outer s H E hr).h, ds.map some ++ List.replicate (N.length - ds.length) none, envs_start r, ?_⟩
    unfold runE at q
    match hf : fb (ds.map some ++ List.replicate (N.length - ds.length) none) with
    | none => rw [hf] at q; exact q.elim
    | some (.exc c) => rw [hf] at q; exact xw_of q
    | some (.rt d) => rw [hf] at q; exact fun v H' e r' => q v H' e r'
    | some (.nx ρ) => rw [hf] at q; exact fun σ' H' e _ => q .non H' e rfl
end FD
namespace FD
open PySem PySem.Spec PyProof.Rows L2
theorem tracked_there {P : Program} {w : World} {H : Hp} {h : Heap} (ok : HOk P w H h) {a : Addr} {u : HO} (q : H a = some u) : ∃ o, h.get? a = some o := by
  have hk := ok a u q
  clear q
  induction u with
  | lst xs => obtain ⟨_, _, _, _, z⟩ := hk; exact ⟨_, z⟩
  | tup xs => obtain ⟨_, _, _, o, z, _⟩ := hk; exact ⟨_, z⟩
  | dK kvs => obtain ⟨_, _, _, _, o, _, _, z, _⟩ := hk; exact ⟨_, z⟩
  | dT kvs => obtain ⟨_, _, _, _, o, _, _, z, _⟩ := hk; exact ⟨_, z⟩
  | set S n => obtain ⟨o, _, _, _, z, _⟩ := hk; exact ⟨_, z⟩
  | ins C dx fs => obtain ⟨_, _, _, z, _⟩ := hk; exact ⟨_, z⟩
  | own y => obtain ⟨_, z⟩ := hk; exact ⟨_, z⟩
  | xd fs => obtain ⟨_, ⟨_, _, _, z, _⟩, _⟩ := hk; exact ⟨_, z⟩
  | rng lo hi => obtain ⟨_, _, _, z⟩ := hk; exact ⟨_, z⟩
  | frz ob u ih => obtain ⟨z, _⟩ := hk; exact ⟨_, z⟩
  | tbl ps => exact ⟨_, (show h.get? a = some _ from hk)⟩
  | met f y => exact ⟨_, (show h.get? a = some _ from hk)⟩
  | ext φ => obtain ⟨_, ⟨_, z⟩, _⟩ := hk; exact ⟨_, z⟩
theorem untracked {P : Program} {w : World} {H : Hp} {h : Heap} (ok : HOk P w H h) {a : Addr} (n : h.get? a = none) : H a = none := by
  cases q : H a with
  | none => rfl
  | some u =>
    obtain ⟨o, z⟩ := tracked_there ok q
    rw [n] at z
    cases z
theorem own_in {K : PySem.W.Frag} {h : Heap} {mg : Str → Option Value} {x : Str} {C : Addr} {bmB : List Value} {newId : String} (X : K.In h) (hb : mg x = some (.ref C)) (q : PySem.W.excIn K C bmB newId = true) : OwnCls x C bmB newId mg h := by
  constructor
  · exact hb
  unfold PySem.W.excIn at q
  split at q
  · rename_i dd cd sl look
    split at q
    · rename_i C2 rest s0 s1 s2 s3 nid s5 em es
      simp only [Bool.and_eq_true, beq_iff_eq, Bool.not_eq_true'] at q
      have e1 := q.1.1.1.1.1
      have e2 := q.1.1.1.1.2
      have e3 := q.1.1.1.2
      have e4 := q.1.1.2
      have e5 := q.1.2
      have e6 := q.2
      clear q
      subst e1 e2
      obtain ⟨f1, f2, f3, f4, f5, f6, f7, f8, f9, f10, f11⟩ := cd
      dsimp only at em e3 e5 e6
      subst em e3
      obtain ⟨l⟩ := sl
      have e7 : l = [s0, s1, s2, s3, some (.builtin nid), s5] := es
      subst e7
      refine ⟨rest, f4, f1, f5, f2, f6, f7, f8, f9, f10, dd, s0, s1, s2, s3, s5, _, X _ _ look, .of_isNs (PySem.W.isNs_of_in X e5), ?_, PySem.W.tail_of_in X e4⟩
      exact PySem.W.nsMap_none_of_in X e5 e6
    · cases q
  · cases q
abbrev bmV : List Value := [.type "ValueError", .type "Exception", .type "BaseException", .type "object"]
structure XC (K : PySem.W.Frag) (c : Nat) (C : Addr) : Prop where
  nm : PySem.W.nsIn K mainGlobals (xnm c) = some (some (.ref C))
  ex : PySem.W.excIn K C bmV "ValueError.__new__" = true
def fRaise (c : Nat) (f : FnE) : FnS := fun ρ => bndS (f ρ) fun _ => some (.exc c)
section
variable {X : Cx} {a : Expr} {fa : FnE} {np cpos pos : Pos} {x : Str} {C : Addr}
theorem fs_raise (c : Nat) (K : XC X.K c C) (hx : xnm c = x) (hm : X.mg x = some (.ref C)) (hex : X.ex = []) (hc : X.calm = true) (hg : Gl X x) (ha : FE X a fa)
    (he : starEach [a] X.env = (false, eval a X.env) :: starEach [] X.env := by kernel_rfl) (hdb : (x == ("__debug__" : Str)) = false := by kernel_rfl) :
    FS X (.Raise (some (.Call (.Name x np) [a] [] cpos)) none pos) (fRaise c fa) := by
  subst hx
  constructor
  intro pins s σ H D I ⟨ρ, E, o⟩
  obtain ⟨tl, N, nm, q, bs, hdct, sn, sub, ab, col, dd, k0, k1, k2, k3, k5, mN, hC, hN, hni, T⟩ := (own_in I.ok.mod.kin hm K.ex).obj
  refine wpAny_Raise_call_subT (C := C) (nm := nm) (q := q) (N := N) (bs := bs) (bm := tl) (hdct := hdct) (sn := sn) (sub := sub) (ab := ab) (col := col) (dd := dd) (k0 := k0) (k1 := k1) (k2 := k2) (k3 := k3) (k5 := k5) PySem.F.excBase_ValueError (mN := mN)
    (T.hasType PySem.F.excBase_ValueError.hasBase) (I.ok.hd hc) (by rw [he]; rfl) hni (ld_glob I hg hm ⟨rfl, ?_⟩ hdb)
  have hp := (fa_cons ha fa_nil he).h cpos pins s σ H (fun vs H1 => vs.length = 1 ∧ XW X c H1) I ⟨ρ, E, ?_⟩
  · rw [he] at hp ⊢
    refine Calls.evalArgs_plain (thn hp fun us s2 ⟨vs, H1, I1, rv, hl, hw⟩ => ⟨rfl, ?_, I1.bk _ _ hC, hN.keeps I1.bk, T.keeps I1.bk, fun h' e me => ?_⟩)
    · rw [← rv.length, hl]; decide
    · have I2 : Inv X pins σ H1 { s2 with heap := h' } := I1.kept (t' := s2.toks) me.keeps
      obtain ⟨t, t1, t2, t3⟩ := me.there
      refine hw pins σ H1 _ (.ref e) (fun _ _ z => z) I2 ⟨e, C, rfl, K.nm, untracked I1.hok me.new, ⟨?_, fun p hp z => ?_⟩, _, _, .ref t, t1, rfl, rfl, rfl, .inl rfl⟩
      · cases z : X.s₀.heap.get? e with
        | none => rfl
        | some o2 =>
          obtain ⟨o3, z3⟩ := I1.base.there e o2 z (by rw [hex]; simp)
          rw [me.new] at z3
          cases z3
      · have z2 := (I1.pin p (List.mem_append_left _ hp)).1
        rw [z, me.new] at z2
        cases z2
  · show OutA X H (aCons fa aNil ρ) _
    unfold aCons
    unfold fRaise at o
    match hf : fa ρ with
    | none => rw [hf] at o; exact o.elim
    | some (.exc c2) => rw [hf] at o; exact o
    | some (.ok d) => rw [hf] at o; exact fun vs H1 e1 r => ⟨r.length, XW.mono o e1⟩
end
end FD
namespace FD
open PySem PySem.Spec PyProof.Rows L2 PySem.W Builtin.Getset_descriptor
theorem bga_plain : plainId "BaseException.__getattribute__" = true := by decide +kernel
theorem bga_kind : builtinKind "BaseException.__getattribute__" = some .slot := by decide +kernel
theorem bga_split : splitId "BaseException.__getattribute__" = some ("BaseException", "__getattribute__") := by decide +kernel
theorem bga_bind (self : Value) : bindSpecial (.builtin "BaseException.__getattribute__") self = pure (.builtin "BaseException.__getattribute__", [self]) := by
  have h1 : withoutEnding? "BaseException.__getattribute__" "#opaque" = none := by decide +kernel
  have h2 : withoutEnding? "BaseException.__getattribute__" "#data" = none := by decide +kernel
  simp only [bindSpecial, typeOf, builtinType, h1, h2, bga_kind]; rfl
section
variable {prog : Program} {w : World} {A : Around} {E : Value → Shared → Prop} {s : Shared} {K : PySem.W.Frag} {x C : Addr} {ox : Obj}
structure XI (K : PySem.W.Frag) (C : Addr) : Prop where
  ga : findIn K (.ref C) "__getattribute__" = some (some (.builtin "BaseException.__getattribute__"))
  gt : findIn K (.ref C) "__getattr__" = some none
  cl : findIn K (.ref C) "__class__" = some (some (.builtin "object.__class__"))
  sp : specialIn K (.builtin "object.__class__") "__get__" = some (some (.builtin "getset_descriptor.__get__"))
  tk : takesIn K (.builtin "object.__class__") = some true
  ob : mroIn K C (.type "object") = some true
  be : mroIn K C (.type "BaseException") = some true
theorem ty_at (hx : s.heap.get? x = some ox) (hc : ox.cls = .ref C) {M : Model} : Looks M s.heap (typeOf (.ref x)) (.ref C) := hc ▸ (Looks.ld hx).andThen .now
theorem look_cls (X : K.In s.heap) (k : XI K C) {M : Model} : Looks M s.heap (Builtin.ObjectAttr.find (.ref x) (.ref C) "__class__") (.bind (.builtin "getset_descriptor.__get__") (.builtin "object.__class__")) := by
  have L1 := looks_findIn (M := M) X k.cl
  have L2 := looks_specialIn (M := M) X k.sp
  have L3 := looks_takesIn (M := M) X k.tk
  intro A2 Q2 E2 s2 k2 q2
  unfold Builtin.ObjectAttr.find
  refine wpAny_bind (L1 A2 _ E2 s2 k2 (wpAny_bind (L2 A2 _ E2 s2 k2 (wpAny_bind ?_))))
  unfold Builtin.ObjectAttr.dataDescriptor?
  refine wpAny_bind (L3 A2 _ E2 s2 k2 ?_)
  rw [if_pos rfl]
  exact wpAny_pure (wpAny_bind (wpAny_rule (wpAny_pure q2)))
theorem cls_of {R : Result → Shared → Prop} {tp : Value} (X : K.In s.heap) (hx : s.heap.get? x = some ox) (hc : ox.cls = .ref C) (hm : mroIn K C (.type "object") = some true)
    (h : R (.ok (.ret (.ref C))) s) : codeAny (model prog w) A (.call (.builtin "getset_descriptor.__get__") ⟨[.builtin "object.__class__", .ref x, tp], []⟩) R s := by
  have L0 := ty_at (M := model prog w) hx hc
  have L1 := looks_mroIn (M := model prog w) X hm
  obtain ⟨hh, g, dr, t, os⟩ := s
  refine codeAny_call_builtin KF.slot_gs.plain KF.entry_gs (KF.slot_gs.check _ _ _ _ _ _ _ _ KF.type_class (KF.args_gs _ _ _) ?_)
  unfold Builtin.«getset_descriptor.__get__» descrGet
  rw [dga_obj]
  refine wpAny_bind (wpAny_pure ?_)
  unfold descrGetter descrCheckInstance descrNameAndClass isInstance
  simp only [KF.owner_class]
  repeat lk
  refine ⟨Code.quiet_builtin _ (by decide +kernel), codeAny_builtin KF.entry_class ?_⟩
  unfold Builtin.«object.__class__» shownTypeOf
  repeat lk
  exact h
theorem exn_class {Q : Option Value → Shared → Prop} (X : K.In s.heap) (hx : s.heap.get? x = some ox) (hc : ox.cls = .ref C) (k : XI K C)
    (h : Q (some (.ref C)) { s with toks := s.toks + 1 }) : wpAny (model prog w) A (getAttr? (.ref x) "__class__") Q E s := by
  have L0 := ty_at (M := model prog w) hx hc
  have L2 := look_cls (M := model prog w) (x := x) X k
  obtain ⟨hh, g, d, t, os⟩ := s
  have L1 := looks_findIn (M := model prog w) X k.ga
  have L3 := looks_findIn (M := model prog w) X k.gt
  have LB := looks_mroIn (M := model prog w) X k.be
  unfold getAttr? getAttrBy? getAttrBy
  refine wpAny_bind (wpAny_mkText (wpAny_bind (wpAny_attempt (wpAny_holding (wpAny_bind (L0.at (wpAny_bind (L1.at ?_))))))))
  have hne : (Value.builtin "BaseException.__getattribute__" == Value.builtin "object.__getattribute__") = false := by decide +kernel
  dsimp only
  rw [hne, Bool.and_false, if_neg Bool.false_ne_true]
  unfold getAttrByItsOwn
  refine wpAny_bind ?_
  show wpAny _ _ (typeLookup (.ref C) "__getattr__") _ _ _
  refine L3.at ?_
  refine wpAny_bind (wpAny_attempt (wpAny_holding ?_))
  unfold callGetattribute boundAndCalled
  rw [if_neg (by decide)]
  rw [bga_bind]
  refine wpAny_bind (wpAny_pure ?_)
  refine wpAny_call (codeAny_call_builtin bga_plain F.entry_bexc_ga ?_)
  simp only [checkBuiltinCall, bga_kind, bga_split]
  have ha := F.args_bexc_ga (.ref x) (.str "__class__" t)
  have LI : Looks (model prog w) hh (isInstance (.ref x) (.type "BaseException")) true := L0.andThen LB
  show wpAny _ _ (isInstance (.ref x) (.type "BaseException") >>= _) _ _ _
  refine wpAny_bind (LI.at ?_)
  simp only [Bool.not_true, Bool.false_eq_true, if_false]
  have hz : hh.get? x = some ox ∧ True := ⟨hx, trivial⟩
  clear hx
  repeat (any_goals (first | assumption | wp_step))
  have hx' := hz.1
  refine wpAny_loadPart_at hx' ?_
  refine wpAny_pure ?_
  rw [hc]
  refine wpAny_bind (L2.at ?_)
  dsimp only
  unfold Builtin.ObjectAttr.bindTo
  dsimp only
  refine wpAny_bind (wpAny_holding (wpAny_call (cls_of (s := ⟨hh, g, d, t + 1, os⟩) (ox := ox) X hx' hc k.ob ?_)))
  refine wpAny_pure ?_
  show wpAny _ _ (handedOut (.ref C)) _ _ _
  rw [handedOut_of rfl]
  exact wpAny_pure (wpAny_pure h)
theorem clsIn_of {K : PySem.W.Frag} {C : Addr} {b : Value} {r : Bool} (h : mroIn K C b = some r) : ∃ cd, clsIn K C = some cd := by
  unfold mroIn at h
  cases q : clsIn K C with
  | none => rw [q] at h; cases h
  | some cd => exact ⟨cd, rfl⟩
theorem kitx_exn {K : PySem.W.Frag} {x C : Addr} {ox : Obj} (k : XI K C) (hc : ox.cls = .ref C) : KitX K (.ref x) (.ref C) (fun h => h.get? x = some ox) where
  ty := fun M h _ q => hc ▸ (Looks.ld q).andThen .now
  it := fun _ _ X _ => by
    obtain ⟨cd, hc⟩ := clsIn_of k.ob
    unfold clsIn at hc
    split at hc
    · rename_i look
      intro A2 Q2 E2 s2 k2 q2
      unfold isType loadHead
      exact wpAny_bind (wpAny_loadPart (k2 _ _ (X _ _ look)) (wpAny_pure q2))
    · cases hc
  ne := fun h tp dd its n sl X htp => by
    obtain ⟨cd, hc⟩ := clsIn_of k.ob
    cases z : (Value.ref C == Value.ref tp) with
    | false => rfl
    | true =>
      have e := Value.ref.inj (beq_iff_eq.mp z)
      subst e
      unfold clsIn at hc
      split at hc
      · rename_i look
        cases (X _ _ look).symm.trans htp
      · cases hc
  ca := fun X q z => exn_class X q hc k z
end
def isX (tb : Nat → Option Bool) : Dv → Option (Rs Dv)
  | .exn c => match tb c with
    | some b => some (.ok (.bl b))
    | none => none
  | _ => none
def XT (K : PySem.W.Frag) (tb : Nat → Option Bool) (T : Value) : Prop := ∀ c b, tb c = some b → ∀ C, nsIn K mainGlobals (xnm c) = some (some (.ref C)) → XI K C ∧ kitOne K (.ref C) T = some b
section
variable {X : Cx} {p pos pT : Pos} {a : Expr} {fa : FnE} {T : Str}
theorem call_isx {tv : V} {tval : Value} (rt : ∀ u, RelV tv u → u = tval) {tb : Nat → Option Bool} (k : XT X.K tb tval) : CallR X (.builtin "isinstance") (fun xs H Q => ∃ v c b, xs = [v, tv] ∧ Rep X.K H (.exn c) v ∧ tb c = some b ∧ Q (.bl b) H) := by
  intro pins s σ H xs us Q I r h
  obtain ⟨v, c, b, rfl, rv, hb, q⟩ := h
  obtain ⟨a, o, u, C, rfl, hH, hc, hn⟩ := rv.exnE
  obtain ⟨u1, u2, rfl, r1, r2⟩ := vals2 r
  cases (show u1 = Value.ref a from r1)
  cases (rt u2 r2)
  obtain ⟨xi, kk⟩ := k c b hb C hn
  have hg : s.heap.get? a = some o := (I.hok a _ hH).1
  exact kia_one (kitx_exn xi hc) I.kIn hg kk (by intro z; cases z) fun tk => ⟨.bl b, H, I.tok tk, rfl, q⟩
theorem fe_isO {tb : Nat → Option Bool} {CT : Addr} (k : XT X.K tb (.ref CT)) (hT : X.mg T = some (.ref CT)) (hgT : Gl X T) (hdT : (T == ("__debug__" : Str)) = false) (hg : Gl X "isinstance") (hm : X.mg "isinstance" = none) (ha : FE X a fa)
    (hs1 : starEach [a, .Name T pT] X.env = (false, eval a X.env) :: starEach [.Name T pT] X.env := by kernel_rfl) (hs2 : starEach [.Name T pT] X.env = (false, eval (.Name T pT) X.env) :: starEach [] X.env := by kernel_rfl)
    (hpl : (backTo pos (starEach [.Name T pT] X.env)).any (·.1) = false := by kernel_rfl) :
    FE X (.Call (.Name "isinstance" p) [a, .Name T pT] [] pos) (f1 (isX tb) fa) :=
  fe_of (pe_callB (call_isx (tv := .ref CT) (fun u z => z) k) hg hm PyProof.Rows.boot_isinstance (pa_cons ha.h (pa_cons (pe_glob (v := .ref CT) hgT hT rfl hdT) pa_nil hs2) hs1) (by decide) (by decide) hs1 hpl) fun σ H Q ρ E o => ⟨ρ, E, Out.bind o fun d v H1 e1 r o1 => by
    show ∃ v2 c b, [v, V.ref CT] = [v2, V.ref CT] ∧ _
    cases d with
    | exn c =>
      have o2 : Out X H1 (match tb c with | some b => some (.ok (.bl b)) | none => none) Q := o1
      cases q : tb c with
      | none => rw [q] at o2; exact o2.elim
      | some b => rw [q] at o2; exact ⟨v, c, b, rfl, r, q, o2 _ H1 (.refl H1) rfl⟩
    | _ => exact o1.elim⟩
theorem fe_isB {T : String} {tb : Nat → Option Bool} (k : XT X.K tb (.type T)) (hT : bootBuiltins (Str.ofString T) = some (.type T)) (hn : Str.ofString T ≠ "__name__") (hdT : (Str.ofString T == ("__debug__" : Str)) = false)
    (hg : Gl X "isinstance") (hm : X.mg "isinstance" = none) (hgT : Gl X (Str.ofString T)) (hmT : X.mg (Str.ofString T) = none) (ha : FE X a fa)
    (hs1 : starEach [a, .Name (Str.ofString T) pT] X.env = (false, eval a X.env) :: starEach [.Name (Str.ofString T) pT] X.env := by kernel_rfl) (hs2 : starEach [.Name (Str.ofString T) pT] X.env = (false, eval (.Name (Str.ofString T) pT) X.env) :: starEach [] X.env := by kernel_rfl)
    (hpl : (backTo pos (starEach [.Name (Str.ofString T) pT] X.env)).any (·.1) = false := by kernel_rfl) :
    FE X (.Call (.Name "isinstance" p) [a, .Name (Str.ofString T) pT] [] pos) (f1 (isX tb) fa) :=
  fe_of (pe_callB (call_isx (tv := .ty T) (fun u z => z) k) hg hm PyProof.Rows.boot_isinstance (pa_cons ha.h (pa_cons (pe_bltn (v := .ty T) hgT hmT hT rfl hn hdT) pa_nil hs2) hs1) (by decide) (by decide) hs1 hpl) fun σ H Q ρ E o => ⟨ρ, E, Out.bind o fun d v H1 e1 r o1 => by
    show ∃ v2 c b, [v, V.ty T] = [v2, V.ty T] ∧ _
    cases d with
    | exn c =>
      have o2 : Out X H1 (match tb c with | some b => some (.ok (.bl b)) | none => none) Q := o1
      cases q : tb c with
      | none => rw [q] at o2; exact o2.elim
      | some b => rw [q] at o2; exact ⟨v, c, b, rfl, r, q, o2 _ H1 (.refl H1) rfl⟩
    | _ => exact o1.elim⟩
end
end FD
namespace FD
open PySem PySem.Spec PyProof.Rows L2 PySem.W
section
variable {X : Cx} {pins : List (Addr × Obj)} {σ : L2.St} {H : Hp} {s : Shared}
theorem unbind_ok {M : Model} {A : Around} {E : Value → Shared → Prop} {i : Nat} {x : Str} {v : V} {pos : Pos} {Q : Unit → Shared → Prop} (I : Inv X pins σ H s) (hN : X.N.Nodup) (hi : X.N[i]? = some x) (hk : X.env.scope.names.lookup x = some .local) (hv : σ[i]? = some (some v))
    (h : ∀ s', Inv X pins (σ.set i none) H s' → Q () s') : wpAny M A (unbindBehindTheSuite X.env x pos) Q E s := by
  obtain ⟨m, hn, hl⟩ := id I.loc
  have hkd : X.env.kindOf x = some .local := hk
  obtain ⟨u, ru, lk⟩ := hl i x v hi hv (.inl hk)
  have hm : m x = some u := by
    rcases lk with ⟨_, z⟩ | ⟨z, _⟩
    · exact z
    · rw [hkd] at z
      rcases z with z | z <;> cases z
  have hcls : (X.env.scope.kind == .class || (X.env.scope.kind == .module && X.env.locals != X.env.globals)) = false := by rw [I.ok.kind]; rfl
  have cne := I.cne
  obtain ⟨oL, _, _, hoL, _⟩ := id hn
  refine wpAny_onRaise (wpAny_unbindName_local hkd hn hm hcls fun h' w hn' hs => ?_)
  refine h _ ⟨I.ok, I.os, I.bare, ⟨fun b o e n hb hx => ?_, fun b o e n hb hx => ?_, I.base.free, fun b o e hx => ?_, I.base.tups, I.base.frzs, I.base.tbls⟩, ⟨_, hn', fun j y v' e1 e2 e3 => ?_⟩, fun y c e => ?_, I.free, I.freeC, fun p hp => ?_, fun b ob e => ?_, by simpa using I.len⟩
  · exact (hs.2 b (Nat.ne_of_lt (Nat.lt_of_lt_of_le (Heap.lt_size e) I.ok.above))).trans (I.base.keep b o e n hb hx)
  · obtain ⟨sl, e1⟩ := I.base.slot b o e n hb hx
    exact ⟨sl, (hs.2 b (Nat.ne_of_lt (Nat.lt_of_lt_of_le (Heap.lt_size e) I.ok.above))).trans e1⟩
  · obtain ⟨o', e1⟩ := I.base.there b o e hx
    exact ⟨o', (hs.2 b (Nat.ne_of_lt (Nat.lt_of_lt_of_le (Heap.lt_size e) I.ok.above))).trans e1⟩
  · by_cases hj : j = i
    · subst hj
      have hjl : j < σ.length := by rw [I.len]; exact (List.getElem?_eq_some_iff.mp hi).1
      rw [List.getElem?_set_self hjl] at e2
      cases e2
    · rw [List.getElem?_set_ne (Ne.symm hj)] at e2
      obtain ⟨u', r', q⟩ := hl j y v' e1 e2 e3
      refine ⟨u', r', ?_⟩
      rcases q with ⟨k, e⟩ | ⟨k, c, e, z⟩
      · refine .inl ⟨k, ?_⟩
        have : y ≠ x := fun e => hj (nodup_ix hN e1 (e ▸ hi))
        simp [this, e]
      · exact .inr ⟨k, c, e, z.sameBut hs (cne y c e)⟩
  · obtain ⟨w', z⟩ := I.cell y c e
    exact ⟨w', z.sameBut hs (cne y c e)⟩
  · obtain ⟨e, n, ne, nf, d⟩ := I.pin p hp
    exact ⟨(hs.2 p.1 ne).trans e, n, ne, nf, d⟩
  · refine (I.hok b ob e).stay (fun c w' hc q => (hs.2 c ?_).trans q) (fun _ q => q) fun _ _ q => q
    rintro rfl
    rcases hc with hc | hc
    · rw [← hc, I.free] at e; cases e
    · rw [I.free] at hc; cases hc
theorem Inv.freeze {e : Addr} {oe : Obj} {vs : Array Value} (I : Inv X pins σ H s) (he : H e = none) (hg : s.heap.get? e = some oe) (hd : oe.data = .fields vs) (h0 : X.s₀.heap.get? e = none) (hp : ∀ p ∈ X.pn ++ pins, p.1 ≠ e) :
    Inv X pins σ (upd H e (.frz oe (.ext fun _ => True))) s := by
  have ne : ∀ b u, H b = some u → b ≠ e := fun b u q => ne_of_none q he
  refine ⟨I.ok, I.os, I.bare, ⟨I.base.keep, I.base.slot, fun b o q n hx => ?_, I.base.there, fun b xs q => ?_, fun b o u q => ?_, fun b ps q => ?_⟩, I.loc, I.cell, ?_, fun x c q => ?_, fun p hp' => ?_, fun b u q => ?_, I.len⟩
  · have hb : b ≠ e := fun z => by rw [z, h0] at q; cases q
    rw [upd_ne hb]
    exact I.base.free b o q n hx
  · have q' := I.base.tups b xs q
    rw [upd_ne (ne b _ q')]
    exact q'
  · have q' := I.base.frzs b o u q
    rw [upd_ne (ne b _ q')]
    exact q'
  · obtain ⟨more, q'⟩ := I.base.tbls b ps q
    exact ⟨more, by rw [upd_ne (ne b _ q')]; exact q'⟩
  · obtain ⟨m, ⟨o, es, ep, ho, hdd, _⟩, _⟩ := I.loc
    have hb : X.env.locals ≠ e := fun z => by rw [z, hg] at ho; cases ho; rw [hd] at hdd; cases hdd
    rw [upd_ne hb]
    exact I.free
  · obtain ⟨v, o, ho, hdd⟩ := I.cell x c q
    have hb : c ≠ e := fun z => by rw [z, hg] at ho; cases ho; rw [hd] at hdd; cases hdd
    rw [upd_ne hb]
    exact I.freeC x c q
  · obtain ⟨q1, q2, q3⟩ := I.pin p hp'
    exact ⟨q1, by rw [upd_ne (hp p hp')]; exact q2, q3⟩
  · by_cases hb : b = e
    · subst hb
      rw [upd_same] at q
      cases q
      exact ⟨hg, trivial, ⟨oe, hg⟩, fun _ _ _ _ => trivial⟩
    · rw [upd_ne hb] at q
      exact (I.hok b u q).stay (fun _ _ _ z => z) (fun c z => by rw [upd_ne (ne c _ z)]; exact z) fun c xs z => by rw [upd_ne (ne c _ z)]; exact z
end
structure RoomM (k : Nat) (A : Around) : Prop where
  dp : A.depth + 3 * k + 5 < recursionLimit
  un : A.units + 16 * k + 200 < cLine
theorem RoomM.of {k : Nat} {A : Around} (r : Room k A) : RoomM k A := ⟨r.dp, r.un⟩
theorem RoomM.mono {j k : Nat} {A : Around} (r : RoomM k A) (h : j ≤ k) : RoomM j A := ⟨by have := r.dp; omega, by have := r.un; omega⟩
theorem RoomM.deeper {k : Nat} {A : Around} (r : RoomM (k + 1) A) (env : Env) : RoomM k (A.deeper env) :=
  ⟨by have := r.dp; show A.depth + 1 + 3 * k + 5 < _; omega, by have := r.un; show A.units + 3 + 16 * k + 200 < _; omega⟩
theorem RoomM.units {k : Nat} {A : Around} (r : RoomM k A) : A.units + 64 < cLine := by have := r.un; omega
structure FnM (P : Program) (w : World) (K : PySem.W.Frag) (mg : Str → Option Value) (base : Heap) (k : Nat) (f : Addr) (fd : FuncData) (ps : List Str) (F : List Dv → Option (Rs Dv)) : Prop where
  run : ∀ (A : Around) (outer : List Env) (s : Shared) (H : Hp) (args : Args) (us : List Value) (vs : List V) (ds : List Dv) (d : Dv) (Q : VK), RoomM k A → Env0 P w K mg base A outer s H → BindsTo s fd args (ps.zip us) → Vals vs us →
    Reps K H ds vs → ds.length = ps.length → F ds = some (.ok d) → (∀ v H', Same H H' → Rep K H' d v → Q v H') → codeAny (model P w) A (.call (.ref f) args) (CR CX0 outer P w H s Q E0) s
def HasM (P : Program) (w : World) (K : PySem.W.Frag) (mg : Str → Option Value) (base : Heap) (x : Str) (k : Nat) (ps : List Str) (F : List Dv → Option (Rs Dv)) : Prop :=
  ∃ f fd, FnM P w K mg base k f fd ps F ∧ mg x = some (.ref f) ∧ PySem.W.keepIn K (.ref f) = true ∧ Binds K fd ps []
section
variable {X : Cx} {x : Str} {p pos : Pos} {e : Expr} {es : List Expr} {g : FnA} {n : Nat}
theorem fe_callM {k' : Nat} (k : Nat) (ps : List Str) (F : List Dv → Option (Rs Dv)) (h : HasM X.prog X.w X.K X.mg X.base x k ps F) (hr : RoomM k' X.A) (hk : k ≤ k') (hg : Gl X x) (ha : FA X (e :: es) g) (hn : n = ps.length := by kernel_rfl) (hdb : (x == ("__debug__" : Str)) = false := by kernel_rfl)
    (he : starEach (e :: es) X.env = (false, eval e X.env) :: starEach es X.env := by kernel_rfl) (hpl : (backTo pos (starEach es X.env)).any (·.1) = false := by kernel_rfl) :
    FE X (.Call (.Name x p) (e :: es) [] pos) (fCall F n g) := by
  subst hn
  obtain ⟨f, fd, G, hm, hkp, hb⟩ := h
  constructor
  intro pins s σ H Q I ⟨ρ, E, o⟩
  have hp : wpAny (model X.prog X.w) X.A (spliced (backTo pos (starEach (e :: es) X.env))) (AP X pins σ fun vs H1 => ∃ ds, Reps X.K H1 ds vs ∧ ds.length = ps.length ∧ ∃ d, F ds = some (.ok d) ∧ ∀ v H', Same H1 H' → Rep X.K H' d v → Q v H') X.xe s := by
    refine ha.h pos pins s σ H _ I ⟨ρ, E, OutA.bind o fun ds vs H' e rs o1 => ?_⟩
    by_cases hl : ds.length = ps.length
    · rw [if_pos hl] at o1
      refine ⟨ds, rs, hl, ?_⟩
      match hF : F ds with
      | none => rw [hF] at o1; exact o1.elim
      | some (.exc c) => rw [hF] at o1; exact o1.elim
      | some (.ok d) => rw [hF] at o1; exact ⟨d, rfl, o1⟩
    · rw [if_neg hl] at o1
      exact o1.elim
  refine wpAny_Call_Name_kw (ld_glob I hg hm ?_ hdb)
  refine PySem.W.callWith_K (h₀ := X.base) I.ok.mod.kin hkp (thn hp fun us s1 ⟨vs, H1, I1, r, ds, rs, hl, d, hF, q⟩ => ⟨I1.kIn, ?_⟩) he hpl
  have hlen : us.length = ps.length := by rw [← r.length, rs.length, hl]
  have hb' : BindsTo s1 fd ⟨us, []⟩ (ps.zip us) := by
    have z := hb s1 us I1.kIn (by rw [List.append_nil]; exact hlen)
    rw [List.append_nil] at z
    exact z
  refine wpAny_call (codeAny_mono (G.run X.A X.stack s1 H1 ⟨us, []⟩ us vs ds d Q (hr.mono hk) I1.env0 hb' r rs hl hF q) fun r s' hq => ?_)
  cases r with
  | error e => exact hq.elim
  | ok fl =>
    cases fl with
    | ret u => exact I1.after hq
    | next => exact False.elim hq
    | brk => exact False.elim hq
    | cont => exact False.elim hq
end
def cxM (P : Program) (w : World) (K : PySem.W.Frag) (mg : Str → Option Value) (base : Heap) (N : List Str) (qual : Str) (scope : Scope) (f : Addr) (cd : Value) (A : Around) (outer : List Env) (s : Shared) (H : Hp) : Cx :=
  { cxOf CX0 P w K mg base N qual scope f cd A outer s H E0 with calm := false, xe := fun _ _ => False }
theorem fn_okM {k : Nat} {f : Addr} {fd : FuncData} {x : Str} {P : Program} {w : World} {K : PySem.W.Frag} {mg : Str → Option Value} {base : Heap} {qual : Str} {st : Stmt} {F : List Dv → Option (Rs Dv)} (N ps : List Str) (fb : FnS) (hF : F = runF N.length fb)
    (Fn : Fun K x qual st f fd) (S : FnScope N ps (defScope st))
    (hb : ∀ (cdv : Value) (A : Around) (outer : List Env) (s : Shared) (H : Hp), RoomM k (A.deeper (envOfC qual (defScope st) s.heap.objs.size f cdv)) → FSs (cxM P w K mg base N qual (defScope st) f cdv A outer s H) (defBody st) fb) :
    FnM P w K mg base (k + 1) f fd ps F := by
  subst hF
  obtain ⟨oc, od, kV, doc, pm, an, cdv, ct, osl, rfl, lk, hcd⟩ := Fn.ex
  refine ⟨fun A outer s H args us vs ds d Q hr e0 hbd r rs hl hF q => ?_⟩
  have hlv : vs.length = ps.length := by rw [rs.length, hl]
  have KX : K.In s.heap := e0.mod.kin.keeps fun b o e => (e0.bs b o e).1
  have lim : s.heap.NoLimit := e0.mod.nolimit.keeps fun b o e => (e0.bs b o e).1
  have hkind : ∀ y ∈ ps.zip us, (defScope st).names.lookup y.1 = some .local ∨ ((defScope st).names.lookup y.1 = some .cell ∧ ((cellsFrom (s.heap.objs.size + 1) (defScope st).names []).lookup y.1).isSome = true) := fun ⟨n, v⟩ hy => by
    rcases S.par n (List.of_mem_zip hy).1 with z | z
    · exact .inl z
    · exact .inr ⟨z, PySem.W.cellsFrom_some _ _ _ (.inl z)⟩
  have hdp : A.depth < recursionLimit := by have := hr.dp; omega
  refine codeAny_call_function hdp (KX _ _ lk) rfl S.co S.gen rfl (PySem.W.codeRec_of KX hcd) (hbd _ _ _ _ ?_)
  refine wpAny_newFunctionEnv_cells S.kind hkind fun env he s1 x => ?_
  subst he
  refine ⟨lim.keeps x.toInCall.keep, codeAny_func ?_⟩
  have e1 : Env0 P w K mg base { A with handled := none } outer s H := ⟨e0.frames, e0.mod, e0.bs, e0.bsz, e0.funs, e0.frf, e0.hok, e0.bare⟩
  have I0 : Inv (cxOf CX0 P w K mg base N qual (defScope st) f cdv { A with handled := none } outer s H E0) [] (start N vs) H s1 := inv_start S rfl e1 hlv r x
  have I : Inv (cxM P w K mg base N qual (defScope st) f cdv A outer s H) [] (start N vs) H s1 :=
    ⟨⟨I0.ok.mod, I0.ok.kind, I0.ok.glob, I0.ok.blt, I0.ok.above, I0.ok.inj, I0.ok.has, I0.ok.cab, (fun z => absurd z Bool.false_ne_true), Around.frames_deeper e0.frames, I0.ok.stk, I0.ok.exf, I0.ok.bs, I0.ok.bsz, I0.ok.noex, I0.ok.exfs, I0.ok.funs, I0.ok.frf⟩,
      I0.os, I0.bare, I0.base, I0.loc, I0.cell, I0.free, I0.freeC, I0.pin, I0.hok, I0.len⟩
  have fin : ∀ {s' : Shared} {σ' : L2.St} {H' : Hp} {v : V} {u : Value}, Inv (cxM P w K mg base N qual (defScope st) f cdv A outer s H) [] σ' H' s' → RelV v u → Q v H' → CE outer P w H s Q u s' := fun {s' σ' H' v u} J rv q => ⟨v, H', J.os, J.bare, J.base, J.hok, rv, q⟩
  have hq : OutS (cxM P w K mg base N qual (defScope st) f cdv A outer s H) H (fb (ds.map some ++ List.replicate (N.length - ds.length) none)) { nx := fun _ H' => Q .non H', rt := Q } := by
    unfold runF at hF
    match hf : fb (ds.map some ++ List.replicate (N.length - ds.length) none) with
    | none => rw [hf] at hF; cases hF
    | some (.exc c) => rw [hf] at hF; cases hF
    | some (.rt d') => rw [hf] at hF; cases hF; exact q
    | some (.nx ρ) => rw [hf] at hF; cases hF; exact fun σ' H' e _ => q .non H' e rfl
  refine wpAny_mono ((hb cdv A outer s H (hr.deeper _)).h [] s1 (start N vs) H _ I ⟨_, envs_start rs, hq⟩) (fun fl s' hs => ?_) fun e s' hs => hs.elim
  cases fl with
  | ret u =>
    obtain ⟨v, σ', H', J, rv, z⟩ := hs
    exact fin J rv z
  | next =>
    obtain ⟨σ', H', J, z⟩ := hs
    exact fin (v := V.non) (u := Value.none) J rfl z
  | brk =>
    obtain ⟨_, _, _, z⟩ := hs
    exact False.elim z
  | cont =>
    obtain ⟨_, _, _, z⟩ := hs
    exact False.elim z
end FD
namespace FD
open PySem PySem.Spec PyProof.Rows L2 PySem.W
abbrev tryX (X : Cx) (pl : List (Addr × Obj)) (E : Value → Shared → Prop) : Cx := { X with pn := X.pn ++ pl, xe := E }
abbrev handX (X : Cx) (pl : List (Addr × Obj)) (e : Addr) : Cx := { X with A := X.A.mark (some (.ref e)), calm := false, pn := X.pn ++ pl, xe := fun _ _ => False }
section
variable {X : Cx} {pl ps : List (Addr × Obj)} {σ : L2.St} {H : Hp} {s : Shared} {E : Value → Shared → Prop} {e : Addr}
theorem inv_try (I : Inv X pl σ H s) : Inv (tryX X pl E) [] σ H s :=
  ⟨⟨I.ok.mod, I.ok.kind, I.ok.glob, I.ok.blt, I.ok.above, I.ok.inj, I.ok.has, I.ok.cab, I.ok.hd, I.ok.frames, I.ok.stk, I.ok.exf, I.ok.bs, I.ok.bsz, I.ok.noex, I.ok.exfs, I.ok.funs, I.ok.frf⟩,
    I.os, I.bare, I.base, I.loc, I.cell, I.free, I.freeC, fun p hp => I.pin p (by simpa using hp), I.hok, I.len⟩
theorem inv_untry (I : Inv (tryX X pl E) ps σ H s) : Inv X pl σ H s :=
  ⟨⟨I.ok.mod, I.ok.kind, I.ok.glob, I.ok.blt, I.ok.above, I.ok.inj, I.ok.has, I.ok.cab, I.ok.hd, I.ok.frames, I.ok.stk, I.ok.exf, I.ok.bs, I.ok.bsz, I.ok.noex, I.ok.exfs, I.ok.funs, I.ok.frf⟩,
    I.os, I.bare, I.base, I.loc, I.cell, I.free, I.freeC, fun p hp => I.pin p (List.mem_append_left _ hp), I.hok, I.len⟩
theorem inv_hand (I : Inv X pl σ H s) : Inv (handX X pl e) [] σ H s :=
  ⟨⟨I.ok.mod, I.ok.kind, I.ok.glob, I.ok.blt, I.ok.above, I.ok.inj, I.ok.has, I.ok.cab, fun z => absurd z Bool.false_ne_true, I.ok.frames, I.ok.stk, I.ok.exf, I.ok.bs, I.ok.bsz, I.ok.noex, I.ok.exfs, I.ok.funs, I.ok.frf⟩,
    I.os, I.bare, I.base, I.loc, I.cell, I.free, I.freeC, fun p hp => I.pin p (by simpa using hp), I.hok, I.len⟩
theorem inv_unhand (ok : X.Ok) (I : Inv (handX X pl e) ps σ H s) : Inv X pl σ H s :=
  ⟨ok, I.os, I.bare, I.base, I.loc, I.cell, I.free, I.freeC, fun p hp => I.pin p (List.mem_append_left _ hp), I.hok, I.len⟩
theorem note_fly {Y : Cx} (I : Inv Y ps σ H s) (hex : Y.ex = []) (hst : Y.stack = Y.env :: Y.outer) (hfm : Y.env.frame = some Y.env.locals) {cls : Value} (F : Fly (newX Y) H e cls s.heap)
    {Q : Unit → Shared → Prop} {E1 E2 : Value → Shared → Prop} (k : ∀ h' Ts a0, (hid Y e Ts s.heap).StaysIn h' → h'.FunFrames (hid Y e Ts s.heap) Y.stack → h'.TracedW (hid Y e Ts s.heap) e cls a0 →
      (∀ b o, s.heap.get? b = some o → (∀ vs, o.data ≠ .fields vs) → ∃ sl, h'.get? b = some { o with slots := sl }) →
      (∀ b, b = e ∨ b ∈ Ts → H b = none ∧ newX Y b ∧ ∃ o vs, s.heap.get? b = some o ∧ o.data = .fields vs) → Q () { s with heap := h' }) :
    wpAny (model Y.prog Y.w) Y.A (noteFrame (.ref e) Y.env) (fun _ s2 => wpAny (model Y.prog Y.w) Y.A (setFlight (.ref e) none) Q E1 s2) E2 s := by
  obtain ⟨f1, f2, oe, vs, a0, q1, q2, q3, q4, q5⟩ := F
  have hfr : Y.A.frames = some (Y.env :: Y.outer) := hst ▸ I.ok.frames
  subst q2
  rcases q5 with q5 | ⟨T, oT, ts, r1, r2, r3, r4, r5, r6, r7⟩
  · have b3 : s.heap.FunFrames (hid Y e [] s.heap) (Y.env :: Y.outer) := hst ▸ hid_fun I
    have go : ∀ h', Heap.NotedW (hid Y e [] s.heap) (Y.env :: Y.outer) e oe.cls a0 (rawInt Y.env.locals) s.heap h' → wpAny (model Y.prog Y.w) Y.A (setFlight (.ref e) none) Q E1 { s with heap := h' } := fun h' ⟨k1, k2, k3, k4⟩ =>
      wpAny_setFlight_noneW (s := { s with heap := h' }) k1 k2 k3 fun h2 m1 m2 m3 m4 => k h2 [] a0 m1 (hst ▸ m2) m3 (fun b o q d => by
        obtain ⟨sl, q'⟩ := k4 b o q d
        exact ⟨sl, m4 b _ q' d⟩) fun b hb => by
          rcases hb with rfl | hb
          · exact ⟨f1, f2, oe, vs, q1, q3⟩
          · cases hb
    unfold noteFrame
    simp only [hfm]
    refine wpAny_bind (wpAny_field q1 q3 q5 ?_)
    rw [if_neg (by decide)]
    exact wpAny_entryW hfr b3 hfm q1 (fun b o z => PySem.W.of_hideAll _ z) (PySem.W.hideAll_none _ (List.mem_cons_self ..)) q3 (Array.getElem?_eq_some_iff.mp q5).1 q4 go
  · have b3 : s.heap.FunFrames (hid Y e [T] s.heap) (Y.env :: Y.outer) := hst ▸ hid_fun I
    have ht : s.heap.TracedW (hid Y e [T] s.heap) e oe.cls a0 := ⟨oe, vs, T, oT, ts, q1, ⟨rfl, q4⟩, q3, r1, PySem.W.hideAll_none _ (by simp), r2, r5, r6, r7⟩
    refine wpAny_noteFrame_onW hfr b3 hfm ht (fun b o z => PySem.W.of_hideAll _ z) (PySem.W.hideAll_none _ (List.mem_cons_self ..)) fun h' ⟨k1, k2, k3, k4⟩ => ?_
    refine wpAny_setFlight_noneW (s := { s with heap := h' }) k1 k2 k3 fun h2 m1 m2 m3 m4 => k h2 [T] a0 m1 (hst ▸ m2) m3 (fun b o q d => by
        obtain ⟨sl, q'⟩ := k4 b o q d
        exact ⟨sl, m4 b _ q' d⟩) fun b hb => by
          rcases hb with rfl | hb
          · exact ⟨f1, f2, oe, vs, q1, q3⟩
          · simp at hb
            subst hb
            exact ⟨r3, r4, oT, ts, r5, r6⟩
theorem exc_match {prog : Program} {w : World} {A : Around} {E1 : Value → Shared → Prop} {K : PySem.W.Frag} {mg mg2 : Str → Option Value} {C J : Addr} {oe : Obj} {y z : Str} {Q : Bool → Shared → Prop} (X : K.In s.heap) (hC : OwnCls y C bmV "ValueError.__new__" mg s.heap) (hJ : OwnCls z J bmV "ValueError.__new__" mg2 s.heap)
    (he : s.heap.get? e = some oe) (hc : oe.cls = .ref C) (hm : mroIn K C (.ref J) = some true) (h : Q true s) : wpAny (model prog w) A (excMatches (.ref e) (.ref J)) Q E1 s := by
  obtain ⟨tl, N, nm, q, bs, hdct, sn, sub, ab, col, dd, k0, k1, k2, k3, k5, mN, hC, hN, hni, T⟩ := hC.obj
  obtain ⟨tl', N', nm', q', bs', hdct', sn', sub', ab', col', dd', l0, l1, l2, l3, l5, mN', hJ, hN', hni', T'⟩ := hJ.obj
  obtain ⟨hh, g, d, t, os⟩ := s
  have hcB : (Value.ref J :: tl').contains (.type "BaseException") = true := by rw [List.contains_cons, T'.hasType PySem.F.excBase_ValueError.hasBase, Bool.or_true]
  have hcC : (Value.ref C :: tl).contains (.ref J) = true := by
    unfold mroIn at hm
    obtain ⟨cd, a, b⟩ := Option.bind_eq_some_iff.mp hm
    split at b
    · cases b
    · have b' := Option.some.inj b
      unfold clsIn at a
      split at a
      · rename_i look
        cases a
        have z := (X _ _ look).symm.trans hC
        cases z
        exact b'
      · cases a
  have f := tc_notTuple
  unfold excMatches
  repeat (first | (with_reducible refine wpAny_loadPart_at he ?_; rw [hc]) | with_reducible refine wpAny_loadPart_at hJ ?_ | (with_reducible refine wpAny_isSubtype_exc hJ ?_; rw [hcB]) | (with_reducible refine wpAny_isSubtype_exc hC ?_; rw [hcC]) | wp_step)
  exact h
end
end FD
namespace FD
open PySem PySem.Spec PyProof.Rows L2 PySem.W
def fTry (m i N : Nat) (f g : FnE) : FnS := fun ρ => match f ρ with
  | none => none
  | some (.ok d) => some (.rt d)
  | some (.exc c) => if c < m then (match g ((List.replicate N none).set i (some (.exn c))) with
    | some (.ok d) => some (.rt d)
    | _ => none) else none
section
variable {X : Cx} {ex hx : Expr} {f g : FnE} {J n : Str} {CJ : Addr} {np rp rp2 hpos pos : Pos}
theorem fs_try (m i N : Nat) (hex : X.ex = []) (hst : X.stack = X.env :: X.outer) (hfm : X.env.frame = some X.env.locals) (hgJ : Gl X J) (hmJ : X.mg J = some (.ref CJ)) (KJ : excIn X.K CJ bmV "ValueError.__new__" = true)
    (xk : ∀ c C, c < m → nsIn X.K mainGlobals (xnm c) = some (some (.ref C)) → excIn X.K C bmV "ValueError.__new__" = true ∧ mroIn X.K C (.ref CJ) = some true)
    (hN : X.N.Nodup) (hi : X.N[i]? = some n) (hl : X.env.scope.names.lookup n = some .local) (hNl : X.N.length = N)
    (hb : ∀ pl E', FE (tryX X pl E') ex f) (hh : ∀ pl e, FE (handX X pl e) hx g) (hdb : (J == ("__debug__" : Str)) = false := by kernel_rfl) :
    FS X (.Try [.Return (some ex) rp] [.ExceptHandler (some (.Name J np)) (some n) [.Return (some hx) rp2] hpos] [] [] pos) (fTry m i N f g) := by
  constructor
  intro pins s σ H D I ⟨ρ, E, o⟩
  refine wpAny_Try_except ?_
  have hbody := fun E' (h : OutS (tryX X pins E') H (fRet f ρ) { nx := fun _ _ => False, rt := D.rt }) => (fss_one (fs_ret (pos := rp) (hb pins E'))).h [] s σ H { nx := fun _ _ => False, rt := D.rt } (inv_try I) ⟨ρ, E, h⟩
  refine wpAny_mono (hbody (fun e s₁ => wpAny (model X.prog X.w) X.A (noteFrame e X.env) (fun _ s₂ => wpAny (model X.prog X.w) X.A (setFlight e none) (fun _ s₃ => wpAny (model X.prog X.w) X.A (handleBy e X.env [.ExceptHandler (some (.Name J np)) (some n) [.Return (some hx) rp2] hpos]) (SP X pins D) X.xe s₃) X.xe s₂) X.xe s₁) ?_) (fun fl s1 hs => ?_) fun e s1 hs => hs
  · unfold fTry at o
    unfold fRet
    match hf : f ρ with
    | none => rw [hf] at o; exact o.elim
    | some (.ok d) => rw [hf] at o; exact o
    | some (.exc c) =>
      rw [hf] at o
      dsimp only at o
      by_cases hcm : c < m
      · rw [if_pos hcm] at o
        intro ps σ1 H1 s1 ev same I1 ⟨e, C, he, hC, F⟩
        subst he
        have fe : H1 e = none := F.1
        have fn := F.2.1
        refine note_fly (Y := tryX X pins _) I1 hex hst hfm F (E1 := X.xe) (E2 := X.xe) fun h2 Ts a0 k1 k2 k3 k4 k5 => ?_
        have I1' := I1.pins_of (pins' := []) fun p hp => absurd hp (by simp)
        have hf5 : ∀ b, b = e ∨ b ∈ Ts → H1 b = none ∧ X.s₀.heap.get? b = none ∧ (∀ p ∈ (X.pn ++ pins) ++ [], p.1 ≠ b) ∧ ∃ o vs, s1.heap.get? b = some o ∧ o.data = .fields vs := fun b hb => ⟨(k5 b hb).1, (k5 b hb).2.1.1, fun p hp => (k5 b hb).2.1.2 p (by simpa using hp), (k5 b hb).2.2⟩
        have I2 := Inv.aft I1' (aft_of I1 k1 k4) hex hf5
        have J2 : Inv (handX X pins e) [] σ1 H1 { s1 with heap := h2 } := inv_hand (inv_untry I2)
        have k3' := k3
        obtain ⟨oe, vs, T, oT, ts, t1, ⟨t2, t3⟩, t4, _⟩ := k3'
        obtain ⟨xC, xm⟩ := xk c C hcm hC
        refine wpAny_handleBy_cons (codeAny_handlers_test (ld_glob (X := handX X pins e) J2 hgJ hmJ ?_ hdb)) (by intro z; cases z)
        refine exc_match (mg := fun _ => some (.ref C)) (y := n) J2.kIn (own_in J2.kIn rfl xC) (own_in J2.kIn hmJ KJ) t1 t2 xm ?_
        show codeAny _ _ (.handlers (.ref e) [.ExceptHandler none (some n) [.Return (some hx) rp2] hpos] X.env) _ _
        refine codeAny_handlers_suite_as ?_
        refine wpAny_setFlight_noneW (s := { s1 with heap := h2 }) k1 k2 k3.at fun h3 m1 m2 m3 m4 => ?_
        have A3 : Aft (tryX X pins _) e Ts s1.heap h3 := aft_of I1 m1 fun b o q d => by
          obtain ⟨sl, q'⟩ := k4 b o q d
          exact ⟨sl, m4 b _ q' d⟩
        have I3 := Inv.aft I1' A3 hex hf5
        obtain ⟨oe3, vs3, T3, oT3, ts3, u1, ⟨u2, u3⟩, u4, _⟩ := m3
        have I4 := Inv.freeze I3 fe u1 u4 fn.1 fun p hp => fn.2 p (by simpa using hp)
        have J4 : Inv (handX X pins e) [] σ1 (upd H1 e (.frz oe3 (.ext fun _ => True))) { s1 with heap := h3 } := inv_hand (inv_untry I4)
        refine store_ok (X := handX X pins e) J4 hN hi (.inl hl) (v := .ref e) rfl (fun s5 J5 => ?_) (.inr hl)
        have rep : Rep X.K (upd H1 e (.frz oe3 (.ext fun _ => True))) (.exn c) (.ref e) := ⟨e, oe3, _, C, rfl, upd_same, u2, hC⟩
        have E5 : Envs X.K (upd H1 e (.frz oe3 (.ext fun _ => True))) (σ1.set i (some (.ref e))) ((List.replicate N none).set i (some (.exn c))) := by
          refine Envs.set (ρ := List.replicate N none) ⟨?_, fun j d hj => ?_⟩ rep
          · rw [I1.len, List.length_replicate]; exact hNl
          · rw [List.getElem?_replicate] at hj
            split at hj <;> cases hj
        match hg : g ((List.replicate N none).set i (some (.exn c))) with
        | none => rw [hg] at o; exact o.elim
        | some (.exc c2) => rw [hg] at o; exact o.elim
        | some (.ok d) =>
          rw [hg] at o
          have hrun := (fss_one (fs_ret (pos := rp2) (hh pins e))).h [] s5 _ _ { nx := fun _ _ => False, rt := D.rt } J5 ⟨_, E5, (by
            unfold fRet
            rw [hg]
            exact fun v H' e1 r => o v H' ((same.trans (same_new fe _)).trans e1) r)⟩
          refine wpAny_mono hrun (fun fl s6 hs => ?_) fun _ _ z => z.elim
          cases fl with
          | ret u =>
            obtain ⟨v, σ6, H6, J6, rv, q6⟩ := hs
            have J7 : Inv X pins σ6 H6 s6 := inv_unhand I.ok J6
            have hil : i < σ6.length := by rw [J7.len]; exact (List.getElem?_eq_some_iff.mp hi).1
            refine wpAny_bind (wpAny_bindName (store_ok J7 hN hi (.inl hl) (v := .non) rfl (fun s7 J8 => ?_) (.inr hl)))
            exact unbind_ok J8 hN hi hl (v := .non) (List.getElem?_set_self hil) fun s8 J9 => ⟨v, _, H6, J9, rv, q6⟩
          | next => obtain ⟨_, _, _, z⟩ := hs; exact False.elim z
          | brk => obtain ⟨_, _, _, z⟩ := hs; exact False.elim z
          | cont => obtain ⟨_, _, _, z⟩ := hs; exact False.elim z
      · rw [if_neg hcm] at o
        exact o.elim
  · cases fl with
    | ret u =>
      obtain ⟨v, σ', H', I', rv, q⟩ := hs
      exact ⟨v, σ', H', inv_untry I', rv, q⟩
    | next => obtain ⟨_, _, _, z⟩ := hs; exact False.elim z
    | brk => obtain ⟨_, _, _, z⟩ := hs; exact False.elim z
    | cont => obtain ⟨_, _, _, z⟩ := hs; exact False.elim z
end
end FD
namespace FD
open PySem PySem.Spec PyProof.Rows L2
def cntD : List Dv → List Dv → Option (Rs Dv)
  | xs, [x] => if flatD x && xs.all flatD && decide (xs.length ≤ 100000) then some (.ok (.int (xs.countP (fun y => eqF y x) : Nat))) else none
  | _, _ => none
def rCount : V → List V → Hp → VK → Prop := fun x xs H Q => ∃ a vs y, x = .ref a ∧ xs = [y] ∧ H a = some (.lst vs) ∧ flatV y = true ∧ vs.all flatV = true ∧ vs.length ≤ 100000 ∧ Q (.int (vs.countP (fun v => eqV v y) : Nat)) H
section
variable {X : Cx} {apos cpos : Pos} {e o : Expr} {es : List Expr} {ga : FnA} {fo : FnE}
theorem count_vals {y : V} : ∀ {vs : List V} {its : List Value}, Vals vs its → vs.all flatV = true → its.countP (eqU y) = vs.countP fun v => eqV v y
  | _, _, .nil, _ => rfl
  | _, _, .cons (a := v) (b := u) r t, f => by
    rw [List.all_cons, Bool.and_eq_true] at f
    rw [List.countP_cons, List.countP_cons, count_vals t f.2, eqU_of r f.1]
theorem mt_lcount : MtR X "list.count" rCount := by
  intro pins s σ H x xs v us Q I rx rs h
  obtain ⟨a, vs, y, rfl, rfl, h1, fy, fv, hz, q⟩ := h
  cases rx
  obtain ⟨u, rfl, ru⟩ := vals1 rs
  obtain ⟨z, its, n, rv, hl, e⟩ := I.lstM h1
  refine call_meets PySem.F.slot_list_count ⟨_, e, rfl⟩ PySem.F.entry_list_count (PySem.F.args_list_count_2 _ _) (SeqAt.list_countAt a its.toArray n none #[] u (eqU y)) ⟨e, fun t ht => mem_eqAt ru fy rv fv t (by simpa using ht), ⟨.int (vs.countP (fun v => eqV v y) : Nat), H, I.tok _, ⟨s.toks, ?_⟩, q⟩⟩
  have := count_vals (y := y) rv fv
  rw [List.toList_toArray, this]
theorem cnt_ok {K : PySem.W.Frag} {H : Hp} {x : Dv} {u : V} (q : Rep K H x u) (hx : flatD x = true) : ∀ {xs : List Dv} {vs : List V}, Reps K H xs vs → xs.all flatD = true → vs.countP (fun v => eqV v u) = xs.countP fun y => eqF y x
  | [], vs, r, _ => by cases (show vs = [] from r); rfl
  | y :: ys, vs, r, f => by
    obtain ⟨v, ws, rfl, r1, r2⟩ : ∃ v us, vs = v :: us ∧ Rep K H y v ∧ Reps K H ys us := r
    rw [List.all_cons, Bool.and_eq_true] at f
    rw [List.countP_cons, List.countP_cons, cnt_ok q hx r2 f.2, eqF_ok r1 q f.1 hx]
theorem fe_count (ho : FE X o fo) (ha : FA X (e :: es) ga)
    (hbase : attributeBase o "count" X.env (eval o X.env) = eval o X.env := by kernel_rfl)
    (hfew : ((backTo cpos (starEach (e :: es) X.env)).all (fun x => !x.1) && (backToKw cpos (keywordEach [] X.env)).all (fun x => x.1.isSome)
      && decide ((e :: es).length + ([] : List Keyword).length + (if ([] : List Keyword).isEmpty then 0 else 1) < 30)) = true := by kernel_rfl)
    (hline : (apos.endLine == cpos.line) = true := by kernel_rfl) (hs : starEach (e :: es) X.env = (false, eval e X.env) :: starEach es X.env := by kernel_rfl) (hplain : (backTo cpos (starEach es X.env)).any (·.1) = false := by kernel_rfl) :
    FE X (.Call (.Attribute o "count" apos) (e :: es) [] cpos) (fML cntD fo ga) :=
  fe_of (pe_bm PySem.F.plainAttrs_list PySem.F.slot_list_count PySem.F.type_list_count mt_lcount ho.h ha.h hbase hfew hline hs hplain) fun σ H Q ρ E o => ⟨ρ, E, Out.bind o fun d v H1 e1 rd o1 => by
    cases d <;> try exact (show False from o1).elim
    rename_i ds
    obtain ⟨a, vs, rfl, h1, h2⟩ := rd.lstE
    refine ⟨.inl ⟨rfl, vs, SqL.of h1⟩, ρ, E.mono e1, OutA.bind o1 fun es ws H2 e2 rs o2 => ?_⟩
    unfold cntD at o2
    split at o2
    · rename_i x
      split at o2
      · rename_i hc
        rw [Bool.and_eq_true, Bool.and_eq_true] at hc
        obtain ⟨w, rfl, rw'⟩ := reps1 rs
        have h2' := Reps.mono e2 _ _ h2
        refine ⟨a, vs, w, rfl, rfl, e2 _ _ h1, flat_ok rw' hc.1.1, flats_ok h2' hc.1.2, by rw [h2.length]; exact of_decide_eq_true hc.2, ?_⟩
        rw [cnt_ok rw' hc.1.1 h2' hc.1.2]
        exact o2 _ H2 (.refl H2) rfl
      · exact o2.elim
    · exact o2.elim⟩
end
section
variable {X : Cx} {a b c : Expr} {fa fb fc : FnE} {pos : Pos}
end
def strMul (x : Str) (n : Int) : Str := if n < 1 then Str.empty else if (n == 1 || x.length == 0) = true then x else ⟨(List.replicate n.toNat x.cps).foldl (· ++ ·) #[]⟩
def mulX : Dv → Dv → Option (Rs Dv)
  | .str x, .int n => if x.length ≤ 1000 ∧ -1000 ≤ n ∧ n ≤ 1000 then some (.ok (.str (strMul x n))) else none
  | x, y => mulD x y
section
variable {X : Cx}
def rMulS : R2 := fun x y H Q => ∃ i n, x = .str i ∧ y = .int n ∧ (i.length ≤ 1000 ∧ -1000 ≤ n ∧ n ≤ 1000) ∧ Q (.str (strMul i n)) H
theorem rep_size (a : Array Nat) : ∀ (k : Nat) (acc : Array Nat), ((List.replicate k a).foldl (· ++ ·) acc).size = acc.size + k * a.size
  | 0, acc => by simp
  | k + 1, acc => by
    rw [List.replicate_succ, List.foldl_cons, rep_size a k (acc ++ a), Array.size_append, Nat.succ_mul]
    omega
theorem million {a n : Nat} (h1 : a ≤ 1000) (h2 : n ≤ 1000) : n * a ≤ sizeLine := by
  have h3 : n * a ≤ 1000 * 1000 := Nat.mul_le_mul h2 h1
  rw [sizeLine_eq]
  exact Nat.le_trans h3 (by decide)
theorem op_mulS : OpR X (binaryOp .Mult) rMulS := by
  intro pins s σ H x y v u Q I rx ry ⟨i, n, hx, hy, hc, q⟩
  subst hx hy
  obtain ⟨t, rfl⟩ := rx
  obtain ⟨t2, rfl⟩ := ry
  have h0 : (decide (n < -(2 ^ 63 : Int)) || decide (n ≥ 2 ^ 63)) = false := by
    have h1 : ¬ n < -(2 ^ 63 : Int) := by omega
    have h2 : ¬ n ≥ 2 ^ 63 := by omega
    rw [decide_eq_false h1, decide_eq_false h2]; rfl
  refine P.mul_str h0 (fun h1 h2 h3 => ?_) (fun h1 h2 => ?_) ?_
  · have hn : 0 < n := by omega
    have e1 := Int.mul_ediv_add_emod (2 ^ 63 - 1) n
    have e2 := Int.emod_lt_of_pos (2 ^ 63 - 1) hn
    have hq : (2 ^ 63 - 1 : Int) / n < 1000 := by omega
    have hq0 : 0 ≤ (2 ^ 63 - 1 : Int) / n := Int.ediv_nonneg (by decide) (by omega)
    have h4 : n * ((2 ^ 63 - 1 : Int) / n) ≤ 1000 * ((2 ^ 63 - 1 : Int) / n) := Int.mul_le_mul_of_nonneg_right hc.2.2 hq0
    omega
  · show decide (i.length * n.toNat > sizeLine) = false
    have := million (a := i.length) (n := n.toNat) hc.1 (by omega)
    rw [Nat.mul_comm]
    exact decide_eq_false (by omega)
  · unfold strMul at q
    split
    · rename_i h1
      rw [if_pos h1] at q
      exact ⟨by decide, ⟨.str Str.empty, H, I.tok _, ⟨_, rfl⟩, q⟩⟩
    · rename_i h1
      rw [if_neg h1] at q
      split
      · rename_i h2
        rw [if_pos h2] at q
        exact ⟨.str i, H, I, ⟨_, rfl⟩, q⟩
      · rename_i h2
        rw [if_neg h2] at q
        refine ⟨?_, ⟨.str _, H, I.tok _, ⟨_, rfl⟩, q⟩⟩
        show ((List.replicate n.toNat i.cps).foldl (· ++ ·) #[]).size ≤ sizeLine
        rw [rep_size]
        have := million (a := i.length) (n := n.toNat) hc.1 (by omega)
        have e : i.cps.size = i.length := rfl
        rw [e]
        simpa using this
theorem o_mulX : OpR X (binaryOp .Mult) (fun x y H Q => rMulS x y H Q ∨ rI CMul (fun i j => .int (i * j)) x y H Q) := op_mulS.or op_mul
theorem g_mulX : GOp X (fun x y H Q => rMulS x y H Q ∨ rI CMul (fun i j => .int (i * j)) x y H Q) mulX := by
  intro dx dy x y H Q rx ry o
  cases dx with
  | str i =>
    cases dy with
    | int n =>
      have o2 : Out X H (if i.length ≤ 1000 ∧ -1000 ≤ n ∧ n ≤ 1000 then some (.ok (.str (strMul i n))) else none) Q := o
      by_cases hc : i.length ≤ 1000 ∧ -1000 ≤ n ∧ n ≤ 1000
      · rw [if_pos hc] at o2
        exact .inl ⟨i, n, rx, ry, hc, o2 _ H (.refl H) rfl⟩
      · rw [if_neg hc] at o2
        exact o2.elim
    | _ => exact (show False from o).elim
  | _ => exact .inr (g_mul _ _ x y H Q rx ry o)
end
end FD
namespace FD
open PySem PySem.Spec PyProof.Rows L2 PySem.W
def xiB (K : PySem.W.Frag) (C : Addr) : Bool := findIn K (.ref C) "__getattribute__" == some (some (.builtin "BaseException.__getattribute__")) && findIn K (.ref C) "__getattr__" == some none && findIn K (.ref C) "__class__" == some (some (.builtin "object.__class__")) &&
  specialIn K (.builtin "object.__class__") "__get__" == some (some (.builtin "getset_descriptor.__get__")) && takesIn K (.builtin "object.__class__") == some true && mroIn K C (.type "object") == some true && mroIn K C (.type "BaseException") == some true
theorem xi_of {K : PySem.W.Frag} {C : Addr} (h : xiB K C = true) : XI K C := by
  unfold xiB at h
  simp only [Bool.and_eq_true, beq_iff_eq] at h
  exact ⟨h.1.1.1.1.1.1, h.1.1.1.1.1.2, h.1.1.1.1.2, h.1.1.1.2, h.1.1.2, h.1.2, h.2⟩
def clsB (K : PySem.W.Frag) (Cs : List Addr) (CJ : Addr) : Bool := excIn K CJ bmV "ValueError.__new__" && (List.range Cs.length).all fun c => excIn K (Cs.getD c 0) bmV "ValueError.__new__" && xiB K (Cs.getD c 0) && mroIn K (Cs.getD c 0) (.ref CJ) == some true &&
  kitOne K (.ref (Cs.getD c 0)) (.type "ValueError") == some true && (List.range Cs.length).all fun d => kitOne K (.ref (Cs.getD c 0)) (.ref (Cs.getD d 0)) == some (c == d)
structure XAll (K : PySem.W.Frag) (m : Nat) (cls : Nat → Addr) (CJ : Addr) : Prop where
  at_ : ∀ c, c < m → nsIn K mainGlobals (xnm c) = some (some (.ref (cls c))) ∧ excIn K (cls c) bmV "ValueError.__new__" = true ∧ XI K (cls c) ∧ mroIn K (cls c) (.ref CJ) = some true ∧ kitOne K (.ref (cls c)) (.type "ValueError") = some true ∧ ∀ d, d < m → kitOne K (.ref (cls c)) (.ref (cls d)) = some (c == d)
  exJ : excIn K CJ bmV "ValueError.__new__" = true
theorem xall_of {K : PySem.W.Frag} {m : Nat} {Cs : List Addr} {CJ : Addr} (hm : m = Cs.length) (hn : ∀ c, c < m → nsIn K mainGlobals (xnm c) = some (some (.ref (Cs.getD c 0)))) (h : clsB K Cs CJ = true) : XAll K m (fun c => Cs.getD c 0) CJ := by
  subst hm
  unfold clsB at h
  rw [Bool.and_eq_true] at h
  refine ⟨fun c hc => ?_, h.1⟩
  have h1 := List.all_eq_true.mp h.2 c (List.mem_range.mpr hc)
  simp only [Bool.and_eq_true, beq_iff_eq] at h1
  exact ⟨hn c hc, h1.1.1.1.1, xi_of h1.1.1.1.2, h1.1.1.2, h1.1.2, fun d hd => by
    have h2 := List.all_eq_true.mp h1.2 d (List.mem_range.mpr hd)
    simpa using h2⟩
section
variable {K : PySem.W.Frag} {m : Nat} {cls : Nat → Addr} {CJ : Addr} (x : XAll K m cls CJ)
include x
theorem XAll.xc (c : Nat) (h : c < m) : XC K c (cls c) := ⟨(x.at_ c h).1, (x.at_ c h).2.1⟩
theorem XAll.same {c : Nat} {C : Addr} (h : c < m) (q : nsIn K mainGlobals (xnm c) = some (some (.ref C))) : C = cls c := by
  have z := (x.at_ c h).1
  rw [q] at z
  cases z
  rfl
theorem XAll.xk : ∀ c C, c < m → nsIn K mainGlobals (xnm c) = some (some (.ref C)) → excIn K C bmV "ValueError.__new__" = true ∧ mroIn K C (.ref CJ) = some true := fun c C h q => by
  rw [x.same h q]
  exact ⟨(x.at_ c h).2.1, (x.at_ c h).2.2.2.1⟩
theorem XAll.xtO (d : Nat) (hd : d < m) : XT K (fun c => if c < m then some (c == d) else none) (.ref (cls d)) := fun c b hb C q => by
  dsimp only at hb
  split at hb
  · rename_i h
    cases hb
    rw [x.same h q]
    exact ⟨(x.at_ c h).2.2.1, (x.at_ c h).2.2.2.2.2 d hd⟩
  · cases hb
theorem XAll.xtV : XT K (fun c => if c < m then some true else none) (.type "ValueError") := fun c b hb C q => by
  dsimp only at hb
  split at hb
  · rename_i h
    cases hb
    rw [x.same h q]
    exact ⟨(x.at_ c h).2.2.1, (x.at_ c h).2.2.2.2.1⟩
  · cases hb
end
end FD
namespace FD
open PySem
theorem bt_ValueError : bootBuiltins (Str.ofString "ValueError") = some (.type "ValueError") := by kernel_rfl
end FD
namespace FD
open PySem PySem.Spec PyProof.Rows L2
section
variable {X : Cx}
end
end FD
namespace FD
open PySem PySem.Spec PyProof.Rows L2
section
variable {X : Cx}
def addT (x y : Dv) : Option (Rs Dv) := match x, y with
  | .tup a, .tup b => if a.length + b.length ≤ 100000 then some (.ok (.tup (a ++ b))) else none
  | x, y => addD x y
theorem cat_tup0 {prog : Program} {w : World} {A : Around} {E : Value → Shared → Prop} {s : Shared} {t b : Addr} {ws : List Value} {Q : Value → Shared → Prop} (ht : IsTup s.heap t #[]) (hb : IsTup s.heap b ws.toArray) (h0 : Q (.ref b) s) :
    wpAny (model prog w) A (binaryOp .Add (.ref t) (.ref b)) Q E s := by
  obtain ⟨⟨cls, dd, data, sl⟩, ho, hc, n, hd⟩ := id ht
  obtain ⟨⟨cls2, dd2, data2, sl2⟩, ho2, hc2, n2, hd2⟩ := id hb
  simp only at hc hd hc2 hd2
  subst hc hd hc2 hd2
  exact concat_meets ⟨_, ho, rfl⟩ ⟨_, ho2, rfl⟩ noFill_tuple_add seq_tuple_add PySem.F.slot_tuple_add PySem.F.entry_tuple_add (PySem.F.args_tuple_add_2 _ _)
      (tuple_addW0 t b #[] ws.toArray n n2 dd dd2 sl sl2 (by simp)) ⟨ho, ho2, h0⟩
def rCatT0 (K : PySem.W.Frag) : R2 := fun x y H Q => ∃ a b ys, x = .ref a ∧ y = .ref b ∧ SqT K H a [] ∧ SqT K H b ys ∧ Q (.ref b) H
theorem op_catT0 : OpR X (binaryOp .Add) (rCatT0 X.K) := by
  intro pins s σ H x y v u Q I rx ry h
  obtain ⟨a, b, ys, rfl, rfl, ha, hb, q⟩ := h
  cases rx
  cases ry
  obtain ⟨its, r1, p1, _⟩ := I.tuple ha
  obtain ⟨its2, r2, p2, _⟩ := I.tuple hb
  cases r1
  exact cat_tup0 p1 p2 ⟨.ref b, H, I, rfl, q⟩
def rAddT (X : Cx) : R2 := fun x y H Q => rAdd3 x y H Q ∨ (rCatT X.K x y H Q ∨ rCatT0 X.K x y H Q)
theorem o_addT : OpR X (binaryOp .Add) (rAddT X) := o_add.or (op_catT.or op_catT0)
theorem addT_else {x y : Dv} (h : ∀ a b, ¬ (x = .tup a ∧ y = .tup b)) : addT x y = addD x y := by
  unfold addT
  split
  · rename_i a b
    exact absurd ⟨rfl, rfl⟩ (h a b)
  · rfl
theorem g_addT : GOp X (rAddT X) addT := by
  intro dx dy x y H Q rx ry o
  by_cases hc : ∃ a b, dx = .tup a ∧ dy = .tup b
  · obtain ⟨a, b, rfl, rfl⟩ := hc
    have o' : Out X H (if a.length + b.length ≤ 100000 then some (.ok (.tup (a ++ b))) else none) Q := o
    split at o'
    · rename_i hl
      obtain ⟨p, xs, rfl, h1, q1⟩ := rx.tupE
      obtain ⟨p2, ys, rfl, h2, q2⟩ := ry.tupE
      cases xs with
      | nil =>
        have ha : a = [] := by
          have := q1.length
          exact List.length_eq_zero_iff.mp this.symm
        subst ha
        exact .inr (.inr ⟨p, p2, ys, rfl, rfl, SqT.of h1, SqT.of h2, o' _ H (.refl H) ⟨p2, ys, rfl, h2, by simpa using q2⟩⟩)
      | cons x0 xs =>
        refine .inr (.inl ⟨p, p2, x0 :: xs, ys, rfl, rfl, SqT.of h1, SqT.of h2, by simp, by rw [q1.length, q2.length]; exact le_line hl, fun hy => ?_, fun hy l hl => o' _ _ (same_new hl _) ⟨l, _, rfl, upd_same, Reps.mono (same_new hl _) _ _ (q1.append q2)⟩⟩)
        subst hy
        have hb : b = [] := List.length_eq_zero_iff.mp q2.length.symm
        subst hb
        exact o' _ H (.refl H) ⟨p, _, rfl, h1, by simpa using q1⟩
    · exact o'.elim
  · rw [addT_else (fun a b h => hc ⟨a, b, h⟩)] at o
    exact .inl (g_add dx dy x y H Q rx ry o)
theorem getItem_tuple_whole {prog : Program} {w : World} {A : Around} {E : Value → Shared → Prop} {s : Shared} {t sl : Addr} {items : Array Value} {vl vu : Value} {lo hi : Option Int} {Q : Value → Shared → Prop} (ht : IsTup s.heap t items) (hs : s.heap.IsSliceOf sl vl vu .none) (pl : IsPart vl lo) (pu : IsPart vu hi)
    (hw : HT.sIx items.size 0 lo = 0 ∧ HT.sIx items.size items.size hi = items.size) (h : Q (.ref t) s) : wpAny (model prog w) A (getItem (.ref t) (.ref sl)) Q E s := by
  obtain ⟨os, hos, hcs, hds⟩ := id hs
  have hTs : s.TypeIs (.ref sl) "slice" := ⟨os, hos, hcs⟩
  unfold getItem
  try with_reducible refine wpAny_holding ?_
  first | refine wpAny_bind (wpAny_pure ?_) | skip
  refine wpAny_bind (wpAny_sequenceKey ht.typeIs (by decide) ?_)
  refine wpAny_bind (wpAny_callSpecial?_slot (name := Str.ofString "__getitem__") ht.typeIs PyProof.Rows.slot_tuple_getitem
    (wpAny_call_entry PyProof.Rows.slot_tuple_getitem ht.typeIs entry_tuple_getitem ?_ (args_tuple_getitem _ _)))
  show wpAny _ _ (Builtin.Tuple.tupleItemsOf (.ref t) >>= _) _ _ s
  refine wpAny_bind (tupleItemsOf_ ht ?_)
  refine wpAny_bind (wpAny_typeOf hTs ?_)
  rw [if_pos (by decide)]
  refine wpAny_bind (HT.sliceApplied_gen hs pl pu ?_)
  have hyes : (((HT.sIx items.size 0 lo : Nat) : Int) == 0 && (1 : Int) == 1 && (HT.sIx items.size items.size hi - HT.sIx items.size 0 lo) == items.size) = true := by
    rw [hw.1, hw.2]
    simp
  show wpAny _ _ (if (((HT.sIx items.size 0 lo : Nat) : Int) == 0 && (1 : Int) == 1 && (HT.sIx items.size items.size hi - HT.sIx items.size 0 lo) == items.size) = true then _ else _) _ _ s
  rw [if_pos hyes]
  refine wpAny_bind (wpAny_bind (wpAny_typeOf ht.typeIs (wpAny_pure ?_)))
  rw [if_pos (by decide)]
  exact wpAny_bind (wpAny_rule (wpAny_pure ⟨_, rfl, wpAny_pure h⟩))
def rSlW (K : PySem.W.Frag) : V → Option Int → Option Int → Hp → VK → Prop := fun x lo hi H Q => ∃ a xs, x = .ref a ∧ SqT K H a xs ∧
  (HT.sIx xs.length 0 lo = 0 ∧ HT.sIx xs.length xs.length hi = xs.length) ∧ Q (.ref a) H
theorem sl_whole : SlR X (rSlW X.K) := by
  intro pins s σ H x v vl vu lo hi sl Q I rx hs pl pu h
  obtain ⟨a, xs, rfl, hx, hw, q⟩ := h
  cases rx
  obtain ⟨its, r, ht, hz⟩ := I.tuple hx
  have hlen : its.toArray.size = xs.length := by rw [List.size_toArray]; exact r.length.symm
  refine ⟨"tuple", _, PyProof.Rows.slot_tuple_getitem.lookup, ht.typeIs, ?_⟩
  exact getItem_tuple_whole ht hs pl pu (by rw [hlen]; exact hw) ⟨.ref a, H, I, rfl, q⟩
def cutT (x : Dv) (lo hi : Option Int) : Option (Rs Dv) := match x with
  | .tup xs => some (.ok (.tup (cutL xs lo hi)))
  | x => cutD x lo hi
def fCutT (fa : FnE) (fl fh : FnO) : FnE := fun ρ => bnd (fa ρ) fun x => bnd (fl ρ) fun lo => bnd (fh ρ) fun hi => cutT x lo hi
theorem cutL_whole {α : Type} {xs : List α} {lo hi : Option Int} (h : HT.sIx xs.length 0 lo = 0 ∧ HT.sIx xs.length xs.length hi = xs.length) : cutL xs lo hi = xs := by
  unfold cutL
  rw [h.1, h.2]
  simp
theorem fe_cutT {a : Expr} {lo hi : Option Expr} {fa : FnE} {fl fh : FnO} {p2 pos : Pos} (ha : FE X a fa) (hl : FO X lo fl) (hh : FO X hi fh) : FE X (.Subscript a (.Slice lo hi none p2) pos) (fCutT fa fl fh) :=
  fe_of (pe_slice ((sl_str.or sl_list).or (sl_tup.or sl_whole)) ha.h hl.h hh.h) fun σ H Q ρ E o => ⟨ρ, E, Out.bind o fun d v H1 e1 r1 o1 => ⟨ρ, E.mono e1, outO_bind o1 fun l H2 e2 o2 => ⟨ρ, (E.mono e1).mono e2, outO_bind o2 fun u H3 e3 o3 => by
    have r3 := Rep.mono e3 d v (Rep.mono e2 d v r1)
    cases d <;> try exact (show False from o3).elim
    · rename_i z
      unfold cutT cutD at o3
      dsimp only at o3
      split at o3
      · rename_i hz
        exact .inl (.inl ⟨z, r3, le_line hz, o3 _ H3 (.refl H3) rfl⟩)
      · exact o3.elim
    · rename_i ds
      obtain ⟨a', xs, rfl, h1, h2⟩ := r3.tupE
      have hlen := h2.length
      by_cases hw : HT.sIx xs.length 0 l = 0 ∧ HT.sIx xs.length xs.length u = xs.length
      · refine .inr (.inr ⟨a', xs, rfl, SqT.of h1, hw, o3 _ H3 (.refl H3) ⟨a', xs, rfl, h1, ?_⟩⟩)
        rw [cutL_whole (by rw [← hlen]; exact hw)]
        exact h2
      · refine .inr (.inl ⟨a', xs, rfl, SqT.of h1, hw, fun p hp => o3 _ _ (same_new hp _) ⟨p, _, rfl, upd_same, Reps.mono (same_new hp _) _ _ ?_⟩⟩)
        unfold cutV cutL
        rw [h2.length]
        exact (h2.drop _).take _
    · rename_i ds
      obtain ⟨a', xs, rfl, h1, h2⟩ := r3.lstE
      refine .inl (.inr ⟨a', xs, rfl, SqL.of h1, fun p hp => o3 _ _ (same_new hp _) ⟨p, _, rfl, upd_same, Reps.mono (same_new hp _) _ _ ?_⟩⟩)
      unfold cutV cutL
      rw [h2.length]
      exact (h2.drop _).take _⟩⟩⟩
theorem adjust_back (n : Nat) : Builtin.Slice.sliceAdjust none none (-1) (n : Int) = ((n : Int) - 1, -1) := rfl
theorem places_back (n : Nat) : Builtin.Slice.slicePlaces ((n : Int) - 1) (-1) (-1) = n := by
  unfold Builtin.Slice.slicePlaces
  have h1 : ¬ ((-1 : Int) > 0) := by omega
  simp only [h1, if_false]
  split
  · have : ((n : Int) - 1 - (-1) - 1) / (-(-1)) = (n : Int) - 1 := by simp
    omega
  · omega
theorem sliceApplied_back {prog : Program} {w : World} {A : Around} {E : Value → Shared → Prop} {s : Shared} {sl : Addr} {t : Tok} {n : Nat} {Q : Int × Int × Nat → Shared → Prop} (hs : s.heap.IsSliceOf sl .none .none (.int (-1) t))
    (h : Q ((n : Int) - 1, -1, n) s) : wpAny (model prog w) A (Builtin.Slice.sliceApplied (.ref sl) (pure (n : Int))) Q E s := by
  obtain ⟨os, hos, hcs, hds⟩ := id hs
  unfold Builtin.Slice.sliceApplied Builtin.Slice.sliceFields
  refine wpAny_bind (wpAny_bind (wpAny_field hos hds (x := .none) rfl (wpAny_bind (wpAny_field hos hds (x := .none) rfl (wpAny_bind (wpAny_field hos hds (x := .int (-1) t) rfl (wpAny_pure ?_)))))))
  refine wpAny_bind (slicePart_int ?_)
  show wpAny _ _ (if ((-1 : Int) == 0) = true then _ else _) _ _ s
  rw [if_neg (by decide)]
  refine wpAny_bind (slicePart_none (wpAny_bind (slicePart_none (wpAny_bind (wpAny_pure ?_)))))
  show wpAny _ _ (match Builtin.Slice.sliceAdjust none none (-1) (n : Int) with | (lo, hi) => pure (lo, (-1 : Int), Builtin.Slice.slicePlaces lo hi (-1))) _ _ s
  rw [adjust_back n]
  show wpAny _ _ (pure ((n : Int) - 1, (-1 : Int), Builtin.Slice.slicePlaces ((n : Int) - 1) (-1) (-1))) _ _ s
  rw [places_back]
  exact wpAny_pure h
theorem filterMap_map' {α β : Type} {f : α → Option β} {g : α → β} : ∀ (l : List α), (∀ m, m ∈ l → f m = some (g m)) → l.filterMap f = l.map g
  | [], _ => rfl
  | x :: l, h => by
    rw [List.filterMap_cons, h x (by simp), List.map_cons, filterMap_map' l fun m hm => h m (List.mem_cons_of_mem _ hm)]
theorem pick_back (xs : List Value) : ((List.range xs.length).filterMap fun (m : Nat) => xs.toArray[((xs.length : Int) - 1 + (m : Int) * -1).toNat]?).toArray = xs.reverse.toArray := by
  congr 1
  apply List.ext_getElem?
  have e : ∀ m, m ∈ List.range xs.length → (xs.toArray[((xs.length : Int) - 1 + (m : Int) * -1).toNat]?) = some (xs.reverse[m]?.getD .none) := fun m hm => by
    have hm' : m < xs.length := List.mem_range.mp hm
    have h1 : ((xs.length : Int) - 1 + (m : Int) * -1).toNat = xs.length - 1 - m := by omega
    rw [h1, List.getElem?_toArray, List.getElem?_reverse hm', List.getElem?_eq_getElem (by omega)]
    rfl
  intro i
  rw [filterMap_map' _ e]
  by_cases hi : i < xs.length
  · rw [List.getElem?_map, List.getElem?_range hi]
    show some (xs.reverse[i]?.getD .none) = _
    rw [List.getElem?_eq_getElem (by simpa using hi)]
    rfl
  · rw [List.getElem?_eq_none (by simpa using hi), List.getElem?_eq_none (by simpa using hi)]
theorem getItem_tuple_back {prog : Program} {w : World} {A : Around} {E : Value → Shared → Prop} {s : Shared} {t sl : Addr} {its : List Value} {tk : Tok} {Q : Value → Shared → Prop} (ht : IsTup s.heap t its.toArray) (hs : s.heap.IsSliceOf sl .none .none (.int (-1) tk))
    (h : Q (.ref s.heap.objs.size) { s with heap := s.heap.push { cls := .type "tuple", data := .seq its.reverse.toArray } }) (hsz : its.length ≤ sizeLine) : wpAny (model prog w) A (getItem (.ref t) (.ref sl)) Q E s := by
  have htake : sizeOk (.seq its.reverse.toArray) := by
    show its.reverse.toArray.size ≤ sizeLine
    rw [List.size_toArray, List.length_reverse]
    exact hsz
  obtain ⟨os, hos, hcs, hds⟩ := id hs
  have hTs : s.TypeIs (.ref sl) "slice" := ⟨os, hos, hcs⟩
  unfold getItem
  try with_reducible refine wpAny_holding ?_
  first | refine wpAny_bind (wpAny_pure ?_) | skip
  refine wpAny_bind (wpAny_sequenceKey ht.typeIs (by decide) ?_)
  refine wpAny_bind (wpAny_callSpecial?_slot (name := Str.ofString "__getitem__") ht.typeIs PyProof.Rows.slot_tuple_getitem
    (wpAny_call_entry PyProof.Rows.slot_tuple_getitem ht.typeIs entry_tuple_getitem ?_ (args_tuple_getitem _ _)))
  show wpAny _ _ (Builtin.Tuple.tupleItemsOf (.ref t) >>= _) _ _ s
  refine wpAny_bind (tupleItemsOf_ ht ?_)
  refine wpAny_bind (wpAny_typeOf hTs ?_)
  rw [if_pos (by decide)]
  rw [List.size_toArray]
  refine wpAny_bind (sliceApplied_back hs ?_)
  have hno : ¬ ((((its.length : Int) - 1) == 0 && (-1 : Int) == 1 && its.length == its.length) = true) := by
    intro q
    rw [Bool.and_eq_true, Bool.and_eq_true] at q
    exact absurd q.1.2 (by decide)
  show wpAny _ _ (if (((its.length : Int) - 1) == 0 && (-1 : Int) == 1 && its.length == its.length) = true then _ else _) _ _ s
  rw [if_neg hno, pick_back]
  first
    | exact wpAny_bind (m := Builtin.Tuple.tupleExact _) (wpAny_newObj_type (wpAny_pure ⟨_, rfl, wpAny_pure h⟩) htake)
    | exact wpAny_bind (m := Builtin.Tuple.tupleExact _) (wpAny_newObj_type (wpAny_bind (wpAny_pure (wpAny_pure ⟨_, rfl, wpAny_pure h⟩))) htake)
    | exact wpAny_bind (wpAny_bind (m := Builtin.Tuple.tupleExact _) (wpAny_newObj_type (wpAny_pure (wpAny_pure ⟨_, rfl, wpAny_pure h⟩)) htake))
    | exact wpAny_bind (wpAny_bind (m := Builtin.Tuple.tupleExact _) (wpAny_newObj_type (wpAny_pure ⟨_, rfl, wpAny_pure h⟩) htake))
theorem Reps.reverse {K : PySem.W.Frag} {H : Hp} : ∀ {ds : List Dv} {vs : List V}, Reps K H ds vs → Reps K H ds.reverse vs.reverse
  | [], vs, r => by cases (show vs = [] from r); exact r
  | d :: ds, vs, r => by
    obtain ⟨v, us, rfl, r1, r2⟩ : ∃ v us, vs = v :: us ∧ Rep K H d v ∧ Reps K H ds us := r
    rw [List.reverse_cons, List.reverse_cons]
    exact (Reps.reverse r2).append ⟨v, [], rfl, r1, rfl⟩
theorem Vals.reverse : ∀ {xs : List V} {us : List Value}, Vals xs us → Vals xs.reverse us.reverse
  | _, _, .nil => .nil
  | x :: xs, u :: us, .cons r t => by
    rw [List.reverse_cons, List.reverse_cons]
    exact (Vals.reverse t).append (.cons r .nil)
def backD : Dv → Option (Rs Dv)
  | .tup xs => some (.ok (.tup xs.reverse))
  | _ => none
def fBack (fa : FnE) : FnE := fun ρ => bnd (fa ρ) backD
theorem fe_back {a st : Expr} {fa fs : FnE} {p2 pos : Pos} (ha : FE X a fa) (hst : FE X st fs) (hv : ∀ ρ, fs ρ = some (.ok (.int (-1))) := by intro _; rfl) : FE X (.Subscript a (.Slice none none (some st) p2) pos) (fBack fa) := ⟨fun pins s σ H Q I ⟨ρ, E, o⟩ => by
  refine Subscript_ (thn (ha.h pins s σ H (fun x H1 => Envs X.K H1 σ ρ ∧ ∃ ds, Rep X.K H1 (.tup ds) x ∧ Out X H1 (some (.ok (.tup ds.reverse))) Q) I ⟨ρ, E, Out.bind o fun d v H1 e1 r1 o1 => ?_⟩) fun v s1 ⟨x, H1, I1, r1, E1, ds, rx, q⟩ => ?_)
  · cases d <;> try exact (show False from o1).elim
    exact ⟨E.mono e1, _, r1, o1⟩
  · refine wpAny_Slice ?_
    rw [evalPart_none]
    refine wpAny_pure ?_
    refine wpAny_pure ?_
    rw [evalPart_some]
    refine thn (hst.h pins s1 σ H1 (fun y H2 => y = .int (-1) ∧ Same H1 H2) I1 ⟨ρ, E1, by rw [hv]; exact fun v H' e r => ⟨r, e⟩⟩) fun u s3 ⟨y, H3, I3, r3, e3, e4⟩ => ?_
    subst e3
    obtain ⟨tk, rfl⟩ := r3
    obtain ⟨b, xs, rfl, h1, h2⟩ := (Rep.mono e4 _ _ rx).tupE
    cases r1
    have I4 : Inv X pins σ H3 { s3 with heap := s3.heap.push { cls := .type "slice", data := .fields #[.none, .none, .int (-1) tk] } } := I3.kept (t' := s3.toks) fun b ob q => Heap.get?_push_of_some _ q
    obtain ⟨its, r, ht, hz⟩ := I4.tuple (SqT.of h1)
    show wpAny (model X.prog X.w) X.A (subscriptTail a (.Slice none none (some st) p2) (.ref b) (.ref s3.heap.objs.size)) (EP X pins σ Q) X.xe _
    refine tail_any (ops := [.ref b, .ref s3.heap.objs.size]) ht.typeIs PyProof.Rows.slot_tuple_getitem.lookup (getItem_tuple_back ht (Heap.IsSliceOf.new ..) ?_ (by rw [← r.length]; exact hz)) (by with_unfolding_all rfl)
    have hp := I4.hok.fresh (Nat.le_refl _)
    refine ⟨.ref _, _, I4.laid (t' := s3.toks) (o := .tup xs.reverse) (fun b ob q => Heap.get?_push_of_some _ q) (Nat.le_refl _) ?_, rfl, q _ _ (e4.trans (same_new hp _)) ⟨_, _, rfl, upd_same, Reps.mono (same_new hp _) _ _ (Reps.reverse h2)⟩⟩
    exact ⟨by rw [List.length_reverse]; exact hz, _, Vals.reverse r, IsTup.new _ _⟩⟩
def listD : List Dv → Option (Rs Dv)
  | [.lst xs] => some (.ok (.lst xs))
  | [.tup xs] => some (.ok (.lst xs))
  | _ => none
theorem fe_list {p pos : Pos} {e : Expr} {es : List Expr} {ga : FnA} (hg : Gl X "list") (hm : X.mg "list" = none) (ha : FA X (e :: es) ga) (he : starEach (e :: es) X.env = (false, eval e X.env) :: starEach es X.env := by kernel_rfl) (hpl : (backTo pos (starEach es X.env)).any (·.1) = false := by kernel_rfl) : FE X (.Call (.Name "list" p) (e :: es) [] pos) (fB1 listD ga) :=
  fe_of (pe_callTy call_list_of hg hm (by decide +kernel) ha.h (by decide) (by decide) he hpl) fun σ H Q ρ E o => ⟨ρ, E, OutA.bind o fun ds vs H1 e1 rs o1 => by
    unfold listD at o1
    split at o1
    · rename_i xs
      obtain ⟨v, rfl, r⟩ := reps1 rs
      obtain ⟨a, ws, rfl, h1, h2⟩ := r.lstE
      exact ⟨a, ws, rfl, .inl (SqL.of h1), fun l hl => o1 _ _ (same_new hl _) ⟨l, ws, rfl, upd_same, Reps.mono (same_new hl _) _ _ h2⟩⟩
    · rename_i xs
      obtain ⟨v, rfl, r⟩ := reps1 rs
      obtain ⟨a, ws, rfl, h1, h2⟩ := r.tupE
      exact ⟨a, ws, rfl, .inr (SqT.of h1), fun l hl => o1 _ _ (same_new hl _) ⟨l, ws, rfl, upd_same, Reps.mono (same_new hl _) _ _ h2⟩⟩
    · exact o1.elim⟩
def inP (x : Dv) (ys : List Dv) : Option Bool := if okP x && decide ((toPy x).depth ≤ 63) && PyData.canLayAll0 (toPys ys) then some ((toPys ys).any fun y => PyData.eqv y (toPy x)) else none
def inX0 (x y : Dv) : Option Bool := match inD0 x y with
  | some b => some b
  | none => match y with
    | .lst ys => inP x ys
    | .tup ys => inP x ys
    | _ => none
def inX (x y : Dv) : Option (Rs Dv) := match inX0 x y with
  | some b => some (.ok (.bl b))
  | none => none
def rInP (X : Cx) (neg : Bool) : R2 := fun x y H Q => ∃ dx ys b, Rep X.K H dx x ∧ (Rep X.K H (.lst ys) y ∨ Rep X.K H (.tup ys) y) ∧ inP dx ys = some b ∧ Q (.bl (if neg then !b else b)) H
theorem op_inP (hu : X.A.units + 64 < cLine) : OpR X (compareOp .In) (rInP X false) := by
  intro pins s σ H x y v u Q I rx ry h
  obtain ⟨dx, ys, b, qx, qy, hb, q⟩ := h
  unfold inP at hb
  split at hb
  · rename_i hc
    cases hb
    obtain ⟨⟨c1, c2⟩, c3⟩ : (okP dx = true ∧ (toPy dx).depth ≤ 63) ∧ PyData.canLayAll0 (toPys ys) = true := by simpa using hc
    obtain ⟨as, ra⟩ := Rep.reads I dx x v qx rx (Bool.and_eq_true_iff.mp c1).1
    have hd : X.A.units + 1 + min (PyData.depthAll (toPys ys)) (toPy dx).depth < cLine := by
      have := Nat.min_le_right (PyData.depthAll (toPys ys)) (toPy dx).depth
      omega
    rcases qy with qy | qy
    · obtain ⟨bs, rb⟩ := Rep.reads I (.lst ys) y u qy ry (by simpa [toPy, PyData.canLay0] using c3)
      exact SeqAt.in_list_reads rb ra c3 (Bool.and_eq_true_iff.mp c1).1 hd ⟨.bl _, H, I, rfl, q⟩
    · obtain ⟨bs, rb⟩ := Rep.reads I (.tup ys) y u qy ry (by simpa [toPy, PyData.canLay0] using c3)
      exact SeqAt.in_tuple_reads rb ra c3 (Bool.and_eq_true_iff.mp c1).1 hd ⟨.bl _, H, I, rfl, q⟩
  · cases hb
def rInX (X : Cx) : R2 := fun x y H Q => rIn2 X.K x y H Q ∨ rInP X false x y H Q
theorem o_inX (hu : X.A.units + 64 < cLine) : OpR X (compareOp .In) (rInX X) := o_in.or (op_inP hu)
theorem g_inX : GOp X (rInX X) inX := by
  intro dx dy x y H Q rx ry o
  unfold inX inX0 at o
  match h0 : inD0 dx dy with
  | some b =>
    rw [h0] at o
    exact .inl (g_in dx dy x y H Q rx ry (by unfold inD; rw [h0]; exact o))
  | none =>
    rw [h0] at o
    cases dy <;> try exact (show False from o).elim
    · rename_i ys
      match hp : inP dx ys with
      | none => simp only [hp] at o; exact (show False from o).elim
      | some b => simp only [hp] at o; exact .inr ⟨dx, ys, b, rx, .inr ry, hp, o _ H (.refl H) rfl⟩
    · rename_i ys
      match hp : inP dx ys with
      | none => simp only [hp] at o; exact (show False from o).elim
      | some b => simp only [hp] at o; exact .inr ⟨dx, ys, b, rx, .inl ry, hp, o _ H (.refl H) rfl⟩
def sixD : Str → List Dv → Option (Rs Dv)
  | x, [.str y] => match Builtin.Str.occurrences x y 0 x.length 1 with
    | i :: _ => some (.ok (.int i))
    | [] => none
  | _, _ => none
def rSix : V → List V → Hp → VK → Prop := fun x xs H Q => ∃ i j k l, x = .str i ∧ xs = [.str j] ∧ Builtin.Str.occurrences i j 0 i.length 1 = k :: l ∧ Q (.int (k : Nat)) H
theorem mt_six : MtR X "str.index" rSix := by
  intro pins s σ H x xs v us Q I rx rs h
  obtain ⟨i, j, k, l, rfl, rfl, ho, q⟩ := h
  obtain ⟨t, rfl⟩ := rx
  obtain ⟨u, rfl, ru⟩ := vals1 rs
  obtain ⟨t', rfl⟩ := ru
  exact SC.index ho ⟨.int _, H, I.tok _, ⟨_, rfl⟩, q⟩
theorem g_six (i : Str) (ds : List Dv) (vs : List V) (H : Hp) (Q : VK) (rs : Reps X.K H ds vs) (o : Out X H (sixD i ds) Q) : rSix (.str i) vs H Q := by
  unfold sixD at o
  split at o
  · rename_i j
    obtain ⟨w, rfl, rw'⟩ := reps1 rs
    cases (show w = .str j from rw')
    match hk : Builtin.Str.occurrences i j 0 i.length 1 with
    | [] => rw [hk] at o; exact o.elim
    | k :: l => rw [hk] at o; exact ⟨i, j, k, l, rfl, rfl, hk, o _ H (.refl H) rfl⟩
  · exact o.elim
end
end FD
namespace FD
open PySem PySem.Spec PyProof.Rows L2
abbrev lobj (its : List Value) (n : Nat) : Obj := { cls := .type "list", data := .seq its.toArray n }
section
variable {X : Cx} {pins : List (Addr × Obj)} {σ : L2.St} {H : Hp} {s : Shared} {a : Addr} {xs : List V}
theorem Inv.untrack (I : Inv X pins σ (upd H a (.lst xs)) s) (ha : H a = none) (hex : X.ex = []) : ∃ its n, Vals xs its ∧ xs.length ≤ sizeLine ∧ (∀ o, X.s₀.heap.get? a = some o → X.H₀ a ≠ none) ∧ (∀ p ∈ X.pn ++ pins, p.1 ≠ a) ∧ Inv X (pins ++ [(a, lobj its n)]) σ H s := by
  obtain ⟨z, its, n, rv, hl, e⟩ := I.lstM (l := a) (xs := xs) upd_same
  have hb : ∀ b u, H b = some u → b ≠ a := fun b u q => ne_of_none q ha
  have low : ∀ b, upd H a (.lst xs) b = none → H b = none := fun b q => by
    by_cases hba : b = a
    · rw [hba]; exact ha
    · rw [upd_ne hba] at q; exact q
  have dn : ∀ b u, upd H a (.lst xs) b = some u → (∀ ys, u ≠ .lst ys) → H b = some u := fun b u q hu => by
    by_cases hba : b = a
    · rw [hba, upd_same] at q
      exact absurd (Option.some.inj q).symm (hu xs)
    · rw [upd_ne hba] at q; exact q
  have nfs : a ∉ X.fs := fun hm => by
    obtain ⟨_, o, ho, _⟩ := I.ok.funs.mem hm
    have := I.base.free a o ho (I.ok.frf a hm) (by rw [hex]; simp)
    rw [upd_same] at this
    cases this
  have npin : ∀ p ∈ X.pn ++ pins, p.1 ≠ a := fun p hp w => by
    have := (I.pin p hp).2.1
    rw [w, upd_same] at this
    cases this
  refine ⟨its, n, rv, z, fun o ho h0 => ?_, npin, ⟨I.ok, I.os, I.bare, ⟨I.base.keep, I.base.slot, fun b o q n hx => low b (I.base.free b o q n hx), I.base.there, fun b ys q => dn b _ (I.base.tups b ys q) (fun _ w => by cases w), fun b o u q => dn b _ (I.base.frzs b o u q) (fun _ w => by cases w), fun b ps q => ?_⟩, I.loc, I.cell, low _ I.free, fun x c q => low _ (I.freeC x c q), fun p hp => ?_, fun b u q => ?_, I.len⟩⟩
  · have := I.base.free a o ho h0 (by rw [hex]; simp)
    rw [upd_same] at this
    cases this
  · obtain ⟨more, q'⟩ := I.base.tbls b ps q
    exact ⟨more, dn b _ q' (fun _ w => by cases w)⟩
  · rcases List.mem_append.mp hp with h1 | h1
    · obtain ⟨q1, q2, q3⟩ := I.pin p (List.mem_append_left _ h1)
      exact ⟨q1, low _ q2, q3⟩
    · rcases List.mem_append.mp h1 with h1 | h1
      · obtain ⟨q1, q2, q3⟩ := I.pin p (List.mem_append_right _ h1)
        exact ⟨q1, low _ q2, q3⟩
      · simp only [List.mem_singleton] at h1
        subst h1
        refine ⟨e, ha, fun w => ?_, nfs, fun v w => by cases w⟩
        obtain ⟨m, ⟨o, es, ep, ho, hd, _⟩, _⟩ := I.loc
        have w' : a = X.env.locals := w
        rw [← w', e] at ho
        cases ho
        cases hd
  · have hq : upd H a (.lst xs) b = some u := by rw [upd_ne (hb b u q)]; exact q
    refine (I.hok b u hq).stay (fun _ _ _ w => w) (fun c w => dn c _ w (fun _ w => by cases w)) fun c ys w => dn c _ w (fun _ w => by cases w)
theorem Inv.retrack {its : List Value} {n : Nat} (I : Inv X (pins ++ [(a, lobj its n)]) σ H s) (rv : Vals xs its) (hz : xs.length ≤ sizeLine) (h0 : ∀ o, X.s₀.heap.get? a = some o → X.H₀ a ≠ none) (hp0 : ∀ p ∈ X.pn ++ pins, p.1 ≠ a) : H a = none ∧ Inv X pins σ (upd H a (.lst xs)) s := by
  obtain ⟨e, ha, nL, nf, nc⟩ := I.pin (a, lobj its n) (List.mem_append_right _ (List.mem_append_right _ (by simp)))
  have up : ∀ b u, H b = some u → upd H a (.lst xs) b = some u := fun b u q => by rw [upd_ne (ne_of_none q ha)]; exact q
  have lo : ∀ b, H b = none → b ≠ a → upd H a (.lst xs) b = none := fun b q h => by rw [upd_ne h]; exact q
  refine ⟨ha, ⟨I.ok, I.os, I.bare, ⟨I.base.keep, I.base.slot, fun b o q n hx => lo b (I.base.free b o q n hx) (fun w => h0 o (w ▸ q) (w ▸ n)), I.base.there, fun b ys q => up b _ (I.base.tups b ys q), fun b o u q => up b _ (I.base.frzs b o u q), fun b ps q => ?_⟩, I.loc, I.cell, lo _ I.free (Ne.symm nL), fun x c q => lo _ (I.freeC x c q) (fun w => ?_), fun p hp => ?_, fun b u q => ?_, I.len⟩⟩
  · obtain ⟨more, q'⟩ := I.base.tbls b ps q
    exact ⟨more, up b _ q'⟩
  · obtain ⟨v, o, ho, hd⟩ := I.cell x c q
    rw [w] at ho
    have e' : s.heap.get? a = some (lobj its n) := e
    rw [e'] at ho
    cases ho
    cases hd
  · obtain ⟨q1, q2, q3⟩ := I.pin p (by
      rcases List.mem_append.mp hp with h1 | h1
      · exact List.mem_append_left _ h1
      · exact List.mem_append_right _ (List.mem_append_left _ h1))
    exact ⟨q1, lo _ q2 (hp0 p hp), q3⟩
  · by_cases hb : b = a
    · subst hb
      rw [upd_same] at q
      cases q
      exact ⟨hz, its, n, rv, e⟩
    · rw [upd_ne hb] at q
      exact (I.hok b u q).stay (fun _ _ _ w => w) (fun c w => up c _ w) fun c ys w => up c _ w
end
def liftT (t : TT) : TT := fun σ Hf Q => ∃ H a xs, Hf = upd H a (.lst xs) ∧ H a = none ∧ t σ H fun v H' => H' a = none → Q v (upd H' a (.lst xs))
def liftA (t : TA) : TA := fun σ Hf Q => ∃ H a xs, Hf = upd H a (.lst xs) ∧ H a = none ∧ t σ H fun v H' => H' a = none → Q v (upd H' a (.lst xs))
section
variable {X : Cx} {e : Expr} {es : List Expr}
theorem pt_lift (hex : X.ex = []) {t : TT} (h : PT X e t) : PT X e (liftT t) := by
  intro pins s σ Hf Q I ⟨H, a, xs, e1, ha, q⟩
  subst e1
  obtain ⟨its, n, rv, hz, h0, hp, I'⟩ := Inv.untrack I ha hex
  refine thn (h _ s σ H _ I' q) fun u s' ⟨H', I2, q2⟩ => ?_
  obtain ⟨ha', I3⟩ := Inv.retrack I2 rv hz h0 hp
  exact ⟨_, I3, q2 ha'⟩
theorem pa_lift (hex : X.ex = []) {t : TA} (h : PA X es t) : PA X es (liftA t) := by
  intro pos pins s σ Hf Q I ⟨H, a, xs, e1, ha, q⟩
  subst e1
  obtain ⟨its, n, rv, hz, h0, hp, I'⟩ := Inv.untrack I ha hex
  refine thn (h pos _ s σ H _ I' q) fun u s' ⟨v, H', I2, r, q2⟩ => ?_
  obtain ⟨ha', I3⟩ := Inv.retrack I2 rv hz h0 hp
  exact ⟨v, _, I3, r, q2 ha'⟩
end
mutual
def imm : Dv → Bool
  | .non => true
  | .bl _ => true
  | .int _ => true
  | .str _ => true
  | .tup ds => imms ds
  | .lst _ => false
  | .scr _ => false
  | .exn _ => false
def imms : List Dv → Bool
  | [] => true
  | d :: ds => imm d && imms ds
end
section
variable {K : PySem.W.Frag} {H H' : Hp}
mutual
theorem Rep.tups (k : ∀ b ys, H b = some (.tup ys) → H' b = some (.tup ys)) : ∀ (d : Dv) (v : V), imm d = true → Rep K H d v → Rep K H' d v
  | .non, _, _, h => h
  | .bl _, _, _, h => h
  | .int _, _, _, h => h
  | .str _, _, _, h => h
  | .tup ds, v, i, h => by
    obtain ⟨a, xs, r, h, q⟩ := h.tupE
    exact ⟨a, xs, r, k _ _ h, Reps.tups k ds xs (by simpa [imm] using i) q⟩
  | .lst _, _, i, _ => by simp [imm] at i
  | .scr _, _, i, _ => by simp [imm] at i
  | .exn _, _, i, _ => by simp [imm] at i
theorem Reps.tups (k : ∀ b ys, H b = some (.tup ys) → H' b = some (.tup ys)) : ∀ (ds : List Dv) (vs : List V), imms ds = true → Reps K H ds vs → Reps K H' ds vs
  | [], _, _, h => h
  | d :: ds, vs, i, h => by
    obtain ⟨v, us, r, h, q⟩ : ∃ v us, vs = v :: us ∧ Rep K H d v ∧ Reps K H ds us := h
    have i' : imm d = true ∧ imms ds = true := by simpa [imms] using i
    exact ⟨v, us, r, Rep.tups k d v i'.1 h, Reps.tups k ds us i'.2 q⟩
end
end
end FD
namespace FD
open PySem PySem.Spec PyProof.Rows L2
inductive Fo where
  | nx (ρ : Ev) (ds : List Dv)
  | rt (d : Dv)
abbrev FnO2 := Ev → List Dv → Option Fo
def OutW (X : Cx) (i : Nat) (a : Addr) (H : Hp) (o : Option Fo) (D : Ends) : Prop := match o with
  | none => False
  | some (.rt d) => ∀ v H', Same H H' → Rep X.K H' d v → D.rt v H'
  | some (.nx ρ ds) => ∀ σ H' xs, Same H H' → H' a = none → σ[i]? = some (some (.ref a)) → Envs X.K H' σ ρ → Reps X.K H' ds xs → D.nx σ (upd H' a (.lst xs))
theorem OutW.mono {X : Cx} {i : Nat} {a : Addr} {H H' : Hp} {D : Ends} (e : Same H H') : ∀ {o : Option Fo}, OutW X i a H o D → OutW X i a H' o D
  | none, h => h
  | some (.rt _), h => fun v H1 e1 r => h v H1 (e.trans e1) r
  | some (.nx _ _), h => fun σ H1 xs e1 => h σ H1 xs (e.trans e1)
def tO (X : Cx) (i : Nat) (f : FnO2) : TS := fun D σ Hf => ∃ H a xs ρ ds, Hf = upd H a (.lst xs) ∧ H a = none ∧ σ[i]? = some (some (.ref a)) ∧ Envs X.K H σ ρ ∧ Reps X.K H ds xs ∧ OutW X i a H (f ρ ds) D
structure FO1 (X : Cx) (i : Nat) (st : Stmt) (f : FnO2) : Prop where
  h : PS X st (tO X i f)
structure FOs (X : Cx) (i : Nat) (st : List Stmt) (f : FnO2) : Prop where
  h : PSs X st (tO X i f)
def bndO {α : Type} (o : Option (Rs α)) (k : α → Option Fo) : Option Fo := match o with
  | some (.ok a) => k a
  | _ => none
def oNil : FnO2 := fun ρ ds => some (.nx ρ ds)
def oSeq (f g : FnO2) : FnO2 := fun ρ ds => match f ρ ds with
  | some (.nx ρ' ds') => g ρ' ds'
  | o => o
def oIf (c : FnB) (f g : FnO2) : FnO2 := fun ρ ds => bndO (c ρ) fun k => if k then f ρ ds else g ρ ds
def oApp (f : FnE) : FnO2 := fun ρ ds => if ds.length < 100000 then bndO (f ρ) fun d => some (.nx ρ (ds ++ [d])) else none
section
variable {X : Cx} {i : Nat} {st : Stmt} {sts : List Stmt} {f g : FnO2} {fe : FnE} {gb : FnB} {e c : Expr} {pos : Pos}
theorem same_full {H : Hp} {a : Addr} {xs : List V} (ha : H a = none) : Same H (upd H a (.lst xs)) := same_new ha _
theorem envs_full {H : Hp} {a : Addr} {xs : List V} {σ : L2.St} {ρ : Ev} {ds : List Dv} (ha : H a = none) (hi : σ[i]? = some (some (.ref a))) (E : Envs X.K H σ ρ) (r : Reps X.K H ds xs) : Envs X.K (upd H a (.lst xs)) σ (ρ.set i (some (.lst ds))) := by
  have E' := E.mono (same_full (xs := xs) ha)
  refine ⟨by rw [List.length_set]; exact E'.len, fun j d hj => ?_⟩
  by_cases hij : i = j
  · subst hij
    by_cases hl : i < ρ.length
    · rw [List.getElem?_set_self hl] at hj
      cases hj
      exact ⟨.ref a, hi, a, xs, rfl, upd_same, Reps.mono (same_full ha) _ _ r⟩
    · rw [List.getElem?_eq_none (by rw [List.length_set]; omega)] at hj
      cases hj
  · rw [List.getElem?_set_ne hij] at hj
    exact E'.at' j d hj
theorem fos_nil : FOs X i [] oNil := ⟨fun pins s σ Hf D I ⟨H, a, xs, ρ, ds, e1, ha, hi, E, r, o⟩ => by
  subst e1
  exact pss_nil pins s σ _ D I (o σ H xs (.refl H) ha hi E r)⟩
theorem fos_cons (h1 : FO1 X i st f) (h2 : FOs X i sts g) : FOs X i (st :: sts) (oSeq f g) := ⟨fun pins s σ Hf D I ⟨H, a, xs, ρ, ds, e1, ha, hi, E, r, o⟩ => by
  refine pss_cons h1.h h2.h pins s σ Hf D I ⟨H, a, xs, ρ, ds, e1, ha, hi, E, r, ?_⟩
  unfold oSeq at o
  match hf : f ρ ds with
  | none => rw [hf] at o; exact o.elim
  | some (.rt d) => rw [hf] at o; exact o
  | some (.nx ρ' ds') => rw [hf] at o; exact fun σ' H' xs' e' ha' hi' E' r' => ⟨H', a, xs', ρ', ds', rfl, ha', hi', E', r', OutW.mono e' o⟩⟩
theorem fos_one (h1 : FO1 X i st f) : FOs X i [st] f := ⟨pss_one h1.h⟩
theorem fo_if (hex : X.ex = []) {as bs : List Stmt} (hc : FT X c gb) (ha : FOs X i as f) (hb : FOs X i bs g) : FO1 X i (.If c as bs pos) (oIf gb f g) := ⟨fun pins s σ Hf D I ⟨H, a, xs, ρ, ds, e1, ha', hia, E, r, o⟩ => by
  refine ps_if (pt_lift hex hc.h) ha.h hb.h pins s σ Hf D I ⟨H, a, xs, e1, ha', ρ, E, ?_⟩
  unfold oIf at o
  match hg : gb ρ with
  | none => rw [hg] at o; exact o.elim
  | some (.exc _) => rw [hg] at o; exact o.elim
  | some (.ok true) => rw [hg] at o; exact fun H' e' h' => iteT ⟨H', a, xs, ρ, ds, rfl, h', hia, E.mono e', Reps.mono e' _ _ r, OutW.mono e' o⟩
  | some (.ok false) => rw [hg] at o; exact fun H' e' h' => iteF ⟨H', a, xs, ρ, ds, rfl, h', hia, E.mono e', Reps.mono e' _ _ r, OutW.mono e' o⟩⟩
theorem fo_app (hex : X.ex = []) {x : Str} {apos cpos : Pos} (hx : PE X (.Name x apos) (tVar i)) (he : FE X e fe)
    (hbase : attributeBase (.Name x apos) "append" X.env (eval (.Name x apos) X.env) = eval (.Name x apos) X.env := by kernel_rfl)
    (hfew : ((backTo cpos (starEach [e] X.env)).all (fun x => !x.1) && (backToKw cpos (keywordEach [] X.env)).all (fun x => x.1.isSome)
      && decide ([e].length + ([] : List Keyword).length + (if ([] : List Keyword).isEmpty then 0 else 1) < 30)) = true := by kernel_rfl)
    {ap : Pos} (hline : (ap.endLine == cpos.line) = true := by kernel_rfl) (hs : starEach [e] X.env = (false, eval e X.env) :: starEach [] X.env := by kernel_rfl) (hplain : (backTo cpos (starEach [] X.env)).any (·.1) = false := by kernel_rfl)
    (hsw : swapsWith (.Call (.Attribute (.Name x apos) "append" ap) [e] [] cpos) none pos.line X.env = pure false := by kernel_rfl) :
    FO1 X i (.Expr (.Call (.Attribute (.Name x apos) "append" ap) [e] [] cpos) pos) (oApp fe) := ⟨fun pins s σ Hf D I ⟨H, a, xs, ρ, ds, e1, ha', hia, E, r, o⟩ => by
  refine ps_expr (pe_bm PySem.F.plainAttrs_list PySem.F.slot_list_append PySem.F.type_list_append mt_append hx (pa_lift hex (fa_cons he fa_nil hs).h) hbase hfew hline hs hplain) hsw pins s σ Hf D I ?_
  unfold oApp at o
  split at o
  · rename_i hl
    match hfe : fe ρ with
    | none => rw [hfe] at o; exact o.elim
    | some (.exc _) => rw [hfe] at o; exact o.elim
    | some (.ok d) =>
      rw [hfe] at o
      refine ⟨.ref a, hia, .inl ⟨rfl, xs, SqL.of (by rw [e1]; exact upd_same)⟩, H, a, xs, e1, ha', ρ, E, ?_⟩
      show OutA X H (aCons fe aNil ρ) _
      rw [aCons_of hfe aNil_of]
      intro vs H' e' rs ha2
      obtain ⟨v, rfl, rv⟩ := reps1 rs
      have hz : xs.length < sizeLine := by
        have := r.length
        have h2 := le_line (n := xs.length + 1) (by omega)
        omega
      refine ⟨a, xs, v, rfl, rfl, upd_same, hz, ?_⟩
      rw [upd_upd]
      exact o σ H' (xs ++ [v]) e' ha2 hia (E.mono e') ((Reps.mono e' _ _ r).append ⟨v, [], rfl, rv, rfl⟩)
  · exact o.elim⟩
end
def fOwn (i : Nat) (g : FnA) (f : FnO2) : FnS := fun ρ => bndS (g ρ) fun ds => if ds.length ≤ 100000 then (match f (ρ.set i none) ds with
  | some (.nx ρ' ds') => some (.nx (ρ'.set i (some (.lst ds'))))
  | some (.rt d) => some (.rt d)
  | none => none) else none
section
variable {X : Cx} {i : Nat} {sts : List Stmt} {f : FnO2} {g : FnA} {es : List Expr} {pos lp : Pos}
theorem fss_own {x : Str} {pos' : Pos} (hN : X.N.Nodup) (hi : X.N[i]? = some x) (hx : Loc X.env.scope x) (hg : FA X es g) (hr : FOs X i sts f) (hs : swapsWith (.List es lp) (some (.Name x pos')) pos.line X.env = pure false := by kernel_rfl)
    (hf : X.fn x = true ∨ X.env.scope.names.lookup x = some .local := by first | exact .inl rfl | exact .inr rfl | assumption) : FSs X (.Assign [.Name x pos'] (.List es lp) pos :: sts) (fOwn i g f) := ⟨fun pins s σ H D I ⟨ρ, E, o⟩ => by
  refine pss_cons (ps_set (i := i) hN hi hx (pe_lst hg.h) hs hf) hr.h pins s σ H D I ⟨ρ, E, ?_⟩
  unfold fOwn at o
  match hgr : g ρ with
  | none => rw [hgr] at o; exact o.elim
  | some (.exc _) => rw [hgr] at o; exact o
  | some (.ok ds) =>
    rw [hgr] at o
    intro vs H1 e1 rs
    have o2 : OutS X H (if ds.length ≤ 100000 then (match f (ρ.set i none) ds with
      | some (.nx ρ' ds') => some (.nx (ρ'.set i (some (.lst ds'))))
      | some (.rt d) => some (.rt d)
      | none => none) else none) D := o
    by_cases hl : ds.length ≤ 100000
    · rw [if_pos hl] at o2
      refine ⟨by rw [rs.length]; exact le_line hl, fun p hp => ?_⟩
      have hil : i < σ.length := by rw [I.len]; exact (List.getElem?_eq_some_iff.mp hi).1
      refine ⟨H1, p, vs, ρ.set i none, ds, rfl, hp, List.getElem?_set_self hil, ?_, rs, ?_⟩
      · have E1 := (E.mono e1).fgt1 i
        refine ⟨by rw [List.length_set]; exact E1.len, fun j d hj => ?_⟩
        by_cases hij : i = j
        · subst hij
          by_cases hl2 : i < ρ.length
          · rw [List.getElem?_set_self hl2] at hj; cases hj
          · rw [List.getElem?_eq_none (by rw [List.length_set]; omega)] at hj; cases hj
        · obtain ⟨v, q1, q2⟩ := E1.at' j d hj
          exact ⟨v, by rw [List.getElem?_set_ne hij]; exact q1, q2⟩
      · match hfr : f (ρ.set i none) ds with
        | none => rw [hfr] at o2; exact o2.elim
        | some (.rt d) => rw [hfr] at o2; exact fun v H' e' r' => o2 v H' (e1.trans e') r'
        | some (.nx ρ' ds') =>
          rw [hfr] at o2
          exact fun σ' H' xs' e' ha' hi' E' r' => o2 σ' _ ((e1.trans e').trans (same_full ha')) (envs_full ha' hi' E' r')
    · rw [if_neg hl] at o2
      exact o2.elim⟩
end
end FD
namespace FD
open PySem PySem.Spec PyProof.Rows L2
end FD
namespace FD
open PySem PySem.Spec PyProof.Rows L2 PySem.W
def tbInt : Dv → Bool
  | .bl _ => true
  | .int _ => true
  | _ => false
section
variable {X : Cx} {p pos : Pos} {e : Expr} {es : List Expr} {ga : FnA}
end
section
variable {X : Cx}
end
structure XAllS (K : PySem.W.Frag) (S : List Nat) (cls : Nat → Addr) (CJ : Addr) : Prop where
  at_ : ∀ c ∈ S, nsIn K mainGlobals (xnm c) = some (some (.ref (cls c))) ∧ excIn K (cls c) bmV "ValueError.__new__" = true ∧ XI K (cls c) ∧ mroIn K (cls c) (.ref CJ) = some true ∧ mroIn K (cls c) (.ref (cls c)) = some true ∧ kitOne K (.ref (cls c)) (.type "ValueError") = some true ∧ ∀ d ∈ S, kitOne K (.ref (cls c)) (.ref (cls d)) = some (c == d)
  exJ : excIn K CJ bmV "ValueError.__new__" = true
section
variable {K : PySem.W.Frag} {S : List Nat} {cls : Nat → Addr} {CJ : Addr} (x : XAllS K S cls CJ)
include x
theorem XAllS.xc (c : Nat) (h : c ∈ S) : XC K c (cls c) := ⟨(x.at_ c h).1, (x.at_ c h).2.1⟩
theorem XAllS.same {c : Nat} {C : Addr} (h : c ∈ S) (q : nsIn K mainGlobals (xnm c) = some (some (.ref C))) : C = cls c := by
  have z := (x.at_ c h).1
  rw [q] at z
  cases z
  rfl
theorem XAllS.xtO (d : Nat) (hd : d ∈ S) : XT K (fun c => if S.contains c then some (c == d) else none) (.ref (cls d)) := fun c b hb C q => by
  dsimp only at hb
  split at hb
  · rename_i h
    have h' : c ∈ S := by simpa using h
    cases hb
    rw [x.same h' q]
    exact ⟨(x.at_ c h').2.2.1, (x.at_ c h').2.2.2.2.2.2 d hd⟩
  · cases hb
theorem XAllS.xtV : XT K (fun c => if S.contains c then some true else none) (.type "ValueError") := fun c b hb C q => by
  dsimp only at hb
  split at hb
  · rename_i h
    have h' : c ∈ S := by simpa using h
    cases hb
    rw [x.same h' q]
    exact ⟨(x.at_ c h').2.2.1, (x.at_ c h').2.2.2.2.2.1⟩
  · cases hb
end
section
variable {X : Cx} {ex hx : Expr} {f g : FnE} {J : Str} {CJ : Addr} {np rp rp2 hpos pos : Pos}
end
end FD
namespace ST
open PySem PySem.SetTable
def stp (m i : Nat) : Nat := (i * 5 + 1) % (m + 1)
def it (m : Nat) : Nat → Nat → Nat
  | 0, i => i
  | k + 1, i => it m k (stp m i)
def cycB (m : Nat) : Bool := (List.range (m + 1)).all fun i => (List.range (m + 1)).all fun j => (List.range (m + 1)).any fun k => it m k i == j
theorem cyc_of {m : Nat} (h : cycB m = true) {i j : Nat} (hi : i ≤ m) (hj : j ≤ m) : ∃ k, k ≤ m ∧ it m k i = j := by
  unfold cycB at h
  have h1 := List.all_eq_true.mp h i (List.mem_range.mpr (by omega))
  have h2 := List.all_eq_true.mp h1 j (List.mem_range.mpr (by omega))
  obtain ⟨k, hk, e⟩ := List.any_eq_true.mp h2
  exact ⟨k, by have := List.mem_range.mp hk; omega, by simpa using e⟩
def lp (m : Nat) : Nat → Nat × Nat → Nat × Nat
  | 0, x => x
  | r + 1, x => lp m r (leap m x.1 x.2)
theorem lp_add (m : Nat) : ∀ (a b : Nat) (x : Nat × Nat), lp m (a + b) x = lp m b (lp m a x)
  | 0, b, x => by rw [Nat.zero_add]; rfl
  | a + 1, b, x => by
    rw [Nat.succ_add]
    show lp m (a + b) (leap m x.1 x.2) = lp m b (lp m a (leap m x.1 x.2))
    exact lp_add m a b _
theorem lp_le (m : Nat) : ∀ (r : Nat) (x : Nat × Nat), x.1 ≤ m → (lp m r x).1 ≤ m
  | 0, x, h => h
  | r + 1, x, h => lp_le m r _ (by
    show (x.1 * 5 + 1 + x.2 / 32) % (m + 1) ≤ m
    exact Nat.le_of_lt_succ (Nat.mod_lt _ (Nat.succ_pos m)))
theorem lp_pt (m : Nat) : ∀ (r : Nat) (x : Nat × Nat), (lp m r x).2 = x.2 / 32 ^ r
  | 0, x => by simp [lp]
  | r + 1, x => by
    show (lp m r (leap m x.1 x.2)).2 = _
    rw [lp_pt m r]
    show x.2 / 32 / 32 ^ r = _
    rw [Nat.div_div_eq_div_mul, Nat.pow_succ, Nat.mul_comm]
theorem lp_zero (m : Nat) : ∀ (r : Nat) (i : Nat), (lp m r (i, 0)).1 = it m r i
  | 0, i => rfl
  | r + 1, i => by
    show (lp m r (leap m i 0)).1 = it m r (stp m i)
    have e : leap m i 0 = (stp m i, 0) := by unfold leap stp; simp
    rw [e]
    exact lp_zero m r _
theorem lp_hits {m : Nat} (c : cycB m = true) {i pt j : Nat} (hi : i ≤ m) (hp : pt < 2 ^ 64) (hj : j ≤ m) : ∃ r, r ≤ 13 + m ∧ (lp m r (i, pt)).1 = j := by
  have h0 : (lp m 13 (i, pt)).2 = 0 := by
    rw [lp_pt]
    exact Nat.div_eq_of_lt (by show pt < 32 ^ 13; have : (32 : Nat) ^ 13 = 2 ^ 65 := by decide
                               omega)
  obtain ⟨k, hk, e⟩ := cyc_of c (lp_le m 13 (i, pt) hi) hj
  refine ⟨13 + k, by omega, ?_⟩
  rw [lp_add]
  have e2 : lp m 13 (i, pt) = ((lp m 13 (i, pt)).1, 0) := by rw [← h0]
  rw [e2, lp_zero]
  exact e
def advN (t : SetTable) : Nat → Probe → Probe
  | 0, p => p
  | n + 1, p => advN t n (t.advance p)
theorem advN_add (t : SetTable) : ∀ (a b : Nat) (p : Probe), advN t (a + b) p = advN t b (advN t a p)
  | 0, b, p => by rw [Nat.zero_add]; rfl
  | a + 1, b, p => by
    rw [Nat.succ_add]
    exact advN_add t a b _
structure Vp (t : SetTable) (p : Probe) : Prop where
  i : p.i ≤ t.mask
  pt : p.perturb < 2 ^ 64
  more : p.more ≤ 9
  dm : p.dummy = none
theorem runEnd_le (m i : Nat) : runEnd m i - i ≤ 9 := by unfold runEnd; split <;> omega
def leapSt (t : SetTable) (p : Probe) : Probe := { p with j := (leap t.mask p.i p.perturb).1, more := runEnd t.mask (leap t.mask p.i p.perturb).1 - (leap t.mask p.i p.perturb).1, i := (leap t.mask p.i p.perturb).1, perturb := (leap t.mask p.i p.perturb).2 }
theorem adv_zero (t : SetTable) (p : Probe) (h : p.more = 0) : t.advance p = leapSt t p := by
  unfold SetTable.advance leapSt
  rw [if_neg (by omega)]
theorem adv_pos (t : SetTable) (p : Probe) (h : 0 < p.more) : t.advance p = { p with j := p.j + 1, more := p.more - 1 } := by
  unfold SetTable.advance
  rw [if_pos h]
theorem to_leap (t : SetTable) : ∀ (k : Nat) (p : Probe), p.more = k → advN t (k + 1) p = leapSt t p
  | 0, p, h => adv_zero t p h
  | k + 1, p, h => by
    show advN t (k + 1) (t.advance p) = _
    rw [adv_pos t p (by omega), to_leap t k _ (by show p.more - 1 = k; omega)]
    rfl
theorem leap_lt (m i pt : Nat) (h : pt < 2 ^ 64) : (leap m i pt).2 < 2 ^ 64 := Nat.lt_of_le_of_lt (Nat.div_le_self _ _) h
theorem Vp.leap {t : SetTable} {p : Probe} (v : Vp t p) : Vp t (leapSt t p) := ⟨by
    show (p.i * 5 + 1 + p.perturb / 32) % (t.mask + 1) ≤ t.mask
    exact Nat.le_of_lt_succ (Nat.mod_lt _ (Nat.succ_pos t.mask)), (show (SetTable.leap t.mask p.i p.perturb).2 < 2 ^ 64 from leap_lt _ _ _ v.pt), (show runEnd t.mask (SetTable.leap t.mask p.i p.perturb).1 - (SetTable.leap t.mask p.i p.perturb).1 ≤ 9 from runEnd_le _ _), v.dm⟩
theorem Vp.adv {t : SetTable} {p : Probe} (v : Vp t p) : Vp t (t.advance p) := by
  by_cases h : 0 < p.more
  · rw [adv_pos t p h]; exact ⟨v.i, v.pt, by show p.more - 1 ≤ 9; have := v.more; omega, v.dm⟩
  · rw [adv_zero t p (by omega)]; exact v.leap
theorem Vp.advN {t : SetTable} : ∀ (n : Nat) {p : Probe}, Vp t p → Vp t (advN t n p)
  | 0, p, v => v
  | n + 1, p, v => Vp.advN n v.adv
theorem to_leaps (t : SetTable) : ∀ (r : Nat) (p : Probe), Vp t p → ∃ n, n ≤ 10 * r ∧ (advN t n p).i = (lp t.mask r (p.i, p.perturb)).1 ∧ (r ≠ 0 → (advN t n p).j = (advN t n p).i)
  | 0, p, v => ⟨0, by omega, rfl, fun h => absurd rfl h⟩
  | r + 1, p, v => by
    obtain ⟨n, h1, h2, h3⟩ := to_leaps t r (leapSt t p) v.leap
    refine ⟨p.more + 1 + n, by have := v.more; omega, ?_, fun _ => ?_⟩
    · rw [advN_add, to_leap t p.more p rfl, h2]; rfl
    · rw [advN_add, to_leap t p.more p rfl]
      by_cases hr : r = 0
      · subst hr
        have hn : n = 0 := by omega
        subst hn
        rfl
      · exact h3 hr
structure Tb (t : SetTable) (n : Nat) : Prop where
  size : t.place.size = n
  dm : t.dummies = #[]
  cyc : cycB t.mask = true
  room : n ≤ t.mask
theorem has_nil (j : Nat) : has #[] j = false := by unfold has; simp
theorem slot_cases {t : SetTable} {n : Nat} (T : Tb t n) (j : Nat) : t.slot j = .empty ∨ ∃ i, t.slot j = .live i ∧ t.place[i]? = some j := by
  unfold SetTable.slot
  dsimp only
  split
  · rename_i h
    exact .inr ⟨_, rfl, by simpa using h⟩
  · rw [T.dm, has_nil]
    exact .inl rfl
theorem missing : ∀ (m : Nat) (l : List Nat), l.length ≤ m → ∃ j, j ≤ m ∧ j ∉ l
  | 0, l, h => ⟨0, Nat.le_refl _, by
    have : l = [] := List.length_eq_zero_iff.mp (by omega)
    simp [this]⟩
  | m + 1, l, h => by
    by_cases hm : (m + 1) ∈ l
    · obtain ⟨j, hj, hn⟩ := missing m (l.erase (m + 1)) (by rw [List.length_erase_of_mem hm]; omega)
      refine ⟨j, by omega, fun hl => hn ?_⟩
      exact (List.mem_erase_of_ne (by omega)).mpr hl
    · exact ⟨m + 1, Nat.le_refl _, hm⟩
theorem empty_ex {t : SetTable} {n : Nat} (T : Tb t n) : ∃ j, j ≤ t.mask ∧ t.slot j = .empty := by
  obtain ⟨j, hj, hn⟩ := missing t.mask t.place.toList (by simp [T.size, T.room])
  refine ⟨j, hj, ?_⟩
  rcases slot_cases T j with h | ⟨i, h, e⟩
  · exact h
  · exact absurd (Array.mem_toList_iff.mpr (Array.mem_of_getElem? e)) hn
theorem reach {t : SetTable} {n : Nat} (T : Tb t n) {p : Probe} (v : Vp t p) : ∃ N, N < 10 * turns t.mask ∧ t.slot (advN t N p).j = .empty := by
  obtain ⟨j, hj, he⟩ := empty_ex T
  obtain ⟨r, hr, e⟩ := lp_hits T.cyc (lp_le t.mask 1 (p.i, p.perturb) v.i) (by
    show (leap t.mask p.i p.perturb).2 < 2 ^ 64
    exact leap_lt _ _ _ v.pt) hj (pt := (lp t.mask 1 (p.i, p.perturb)).2)
  obtain ⟨N, h1, h2, h3⟩ := to_leaps t (1 + r) p v
  refine ⟨N, by unfold turns; omega, ?_⟩
  rw [h3 (by omega), h2, lp_add]
  rw [show lp t.mask 1 (p.i, p.perturb) = ((lp t.mask 1 (p.i, p.perturb)).1, (lp t.mask 1 (p.i, p.perturb)).2) from rfl, e]
  exact he
theorem first {P : Nat → Prop} [DecidablePred P] : ∀ (b : Nat), (∃ n, n < b ∧ P n) → ∃ n, n < b ∧ P n ∧ ∀ k, k < n → ¬ P k
  | 0, ⟨n, h, _⟩ => absurd h (Nat.not_lt_zero _)
  | b + 1, ⟨n, h, hp⟩ => by
    by_cases q : ∃ n, n < b ∧ P n
    · obtain ⟨n, h1, h2, h3⟩ := first b q
      exact ⟨n, by omega, h2, h3⟩
    · have hn : n = b := by
        have : ¬ n < b := fun z => q ⟨n, z, hp⟩
        omega
      subst hn
      exact ⟨n, by omega, hp, fun k hk z => q ⟨k, hk, z⟩⟩
end ST
namespace ST
open PySem PySem.SetTable
theorem getD_none {owner : Array (Option Nat)} {j : Nat} (h : (owner.getD j (some 0)).isNone = true) : j < owner.size ∧ owner.toList[j]? = some none := by
  rw [Array.getD_eq_getD_getElem?] at h
  cases q : owner[j]? with
  | none => rw [q] at h; simp at h
  | some x =>
    rw [q] at h
    have hx : x = none := by simpa using h
    subst hx
    refine ⟨(Array.getElem?_eq_some_iff.mp q).1, by rw [Array.getElem?_toList]; exact q⟩
end ST
namespace ST
open PySem PySem.SetTable
section
variable {prog : Program} {w : World} {A : Around} {E : Value → Shared → Prop} {s : Shared}
abbrev TK (prog : Program) (w : World) (h : Heap) (k : List Str) (a : Addr) : Prop := IsTupleKey (strKind prog w) h k a
abbrev hsh (prog : Program) (w : World) (k : List Str) : Int := tupleKeyHash (strKind prog w) k
def Ent (prog : Program) (w : World) (h : Heap) (ks : List (List Str)) (es : List (Int × Value)) : Prop := ∀ e ∈ es, ∃ k a, k ∈ ks ∧ e.2 = .ref a ∧ TK prog w h k a
end
end ST
namespace ST
open PySem PySem.SetTable
section
variable {prog : Program} {w : World} {A : Around} {E : Value → Shared → Prop} {s : Shared}
def SetT (prog : Program) (w : World) (h : Heap) (S : Addr) (ks : List (List Str)) (n : Nat) : Prop :=
  ∃ o es ep t, h.get? S = some o ∧ o.ExactSet ∧ o.data = .set es ep t ∧ es.size = n ∧ Tb t n ∧ ((t.mask = 7 ∧ n ≤ 4) ∨ (t.mask = 31 ∧ n ≤ 18)) ∧ Ent prog w h ks es.toList
theorem TK.keeps {h h' : Heap} {k : List Str} {a S : Addr} {o : Obj} {es ep t} (x : TK prog w h k a) (ho : h.get? S = some o) (hd : o.data = .set es ep t) (hs : Heap.SameBut S h h') : TK prog w h' k a := by
  obtain ⟨o', items, n, ho', hc, hd', hi⟩ := x
  have hne : a ≠ S := by
    rintro rfl
    obtain rfl : o' = o := Option.some.inj (ho'.symm.trans ho)
    rw [hd] at hd'; exact nomatch hd'
  exact ⟨o', items, n, (hs.2 a hne).trans ho', hc, hd', hi⟩
theorem Ent.keeps {h h' : Heap} {ks : List (List Str)} {l : List (Int × Value)} {S : Addr} {o : Obj} {es ep t} (x : Ent prog w h ks l) (ho : h.get? S = some o) (hd : o.data = .set es ep t) (hs : Heap.SameBut S h h') : Ent prog w h' ks l := fun e he => by
  obtain ⟨k, a, h1, h2, h3⟩ := x e he
  exact ⟨k, a, h1, h2, h3.keeps ho hd hs⟩
end
end ST
namespace ST
open PySem PySem.SetTable PyProof.Rows
section
variable {prog : Program} {w : World} {A : Around} {R : Result → Shared → Prop} {I : Addr} {fp wr : List Addr} {G : Array GenState → Array GenState → Prop} {n : Nat} {P : Nat → Value → Prop} {St : Nat → Shared → Prop}
theorem TK.moved {h h' : Heap} {k : List Str} {a : Addr} (x : TK prog w h k a) (hm : ∀ o, h.get? a = some o → h'.get? a = some o) : TK prog w h' k a := by
  obtain ⟨o', items, n, ho', hc, hd', hi⟩ := x
  exact ⟨o', items, n, hm _ ho', hc, hd', hi⟩
theorem SetT.moved {h h' : Heap} {S : Addr} {ks : List (List Str)} {n : Nat} (x : SetT prog w h S ks n) (hS : ∀ o, h.get? S = some o → h'.get? S = some o) (hm : ∀ k ∈ ks, ∀ a, TK prog w h k a → TK prog w h' k a) : SetT prog w h' S ks n := by
  obtain ⟨o, es, ep, t, ho, hex, hd, hsz, T, hmk, hE⟩ := x
  exact ⟨o, es, ep, t, hS _ ho, hex, hd, hsz, T, hmk, fun e he => let ⟨k, a, h1, h2, h3⟩ := hE e he; ⟨k, a, h1, h2, hm k h1 a h3⟩⟩
end
end ST
namespace ST
open PySem PySem.SetTable PyProof.Rows
section
variable {prog : Program} {w : World} {A : Around} {E : Value → Shared → Prop} {s : Shared}
abbrev eset (led : Bool) : Obj := { cls := .type "set", dict := none, data := .set #[] 0 (.fresh 0 0 led) }
end
end ST
namespace FD
open PySem PySem.Spec PyProof.Rows L2
def strsOf : List Dv → Option (List Str)
  | [] => some []
  | .str x :: r => (strsOf r).map (x :: ·)
  | _ => none
def keysOf : List Dv → Option (List (List Str))
  | [] => some []
  | .tup ds :: r => match strsOf ds, keysOf r with
    | some k, some ks => some (k :: ks)
    | _, _ => none
  | _ => none
section
variable {X : Cx} {pins : List (Addr × Obj)} {σ : L2.St} {H : Hp} {s : Shared}
end
section
variable {X : Cx} {p p2 pos pos2 : Pos} {e : Expr} {ga : FnA}
end
def mulL : Dv → Dv → Option (Rs Dv)
  | .lst xs, .int n => if 0 ≤ n ∧ xs.length * n.toNat ≤ 100000 ∧ n ≤ 100000 then some (.ok (.lst (List.replicate n.toNat xs).flatten)) else none
  | x, y => mulX x y
end FD
namespace FD
open PySem PySem.Spec PyProof.Rows L2
section
variable {X : Cx}
theorem reps_rep {K : PySem.W.Frag} {H : Hp} {ds : List Dv} {vs : List V} (h : Reps K H ds vs) : ∀ n : Nat, Reps K H (List.replicate n ds).flatten (List.replicate n vs).flatten
  | 0 => rfl
  | n + 1 => by
    rw [List.replicate_succ, List.replicate_succ, List.flatten_cons, List.flatten_cons]
    exact h.append (reps_rep h n)
def rMulL : R2 := fun x y H Q => rRep x y H Q ∨ (rMulS x y H Q ∨ rI CMul (fun i j => .int (i * j)) x y H Q)
theorem o_mulL : OpR X (binaryOp .Mult) rMulL := op_rep.or o_mulX
theorem g_mulL : GOp X rMulL mulL := by
  intro dx dy x y H Q rx ry o
  cases dx with
  | lst xs =>
    cases dy with
    | int n =>
      have o2 : Out X H (if 0 ≤ n ∧ xs.length * n.toNat ≤ 100000 ∧ n ≤ 100000 then some (.ok (.lst (List.replicate n.toNat xs).flatten)) else none) Q := o
      by_cases hc : 0 ≤ n ∧ xs.length * n.toNat ≤ 100000 ∧ n ≤ 100000
      · rw [if_pos hc] at o2
        obtain ⟨p, vs, rfl, h1, q1⟩ := rx.lstE
        refine .inl ⟨p, n, vs, rfl, ry, h1, by omega, by omega, by rw [q1.length]; exact le_line hc.2.1, fun l hl => o2 _ _ (same_new hl _) ⟨l, _, rfl, upd_same, Reps.mono (same_new hl _) _ _ (reps_rep q1 _)⟩⟩
      · rw [if_neg hc] at o2
        exact o2.elim
    | _ => exact .inr (g_mulX _ _ x y H Q rx ry o)
  | _ => exact .inr (g_mulX _ _ x y H Q rx ry o)
end
end FD
namespace FD
open PySem PySem.Spec PyProof.Rows L2
def frs {α : Type} (P : α → Bool) : Sem α → Bool
  | .pure a => P a
  | .fresh _ => true
  | .at _ k => frs P (k ())
  | .rule _ k => frs P (k ())
  | .point _ k => frs P (k ())
  | _ => false
structure FE1 (X : Cx) (e : Expr) (f : FnE) : Prop where
  h : ∀ (pins : List (Addr × Obj)) (s : Shared) (σ : L2.St) (H : Hp) (Q : VK), 1 ≤ s.toks → Inv X pins σ H s → tF X f σ H Q → wpAny (model X.prog X.w) X.A (eval e X.env) (EP X pins σ Q) X.xe s
structure FT1 (X : Cx) (e : Expr) (f : FnB) : Prop where
  h : ∀ (pins : List (Addr × Obj)) (s : Shared) (σ : L2.St) (H : Hp) (Q : Bool → Hp → Prop), 1 ≤ s.toks → Inv X pins σ H s → tT X f σ H Q → wpAny (model X.prog X.w) X.A (isTrue e X.env (eval e X.env)) (TP X pins σ Q) X.xe s
structure FW1 (X : Cx) (e : Expr) (f : FnB) : Prop where
  h : ∀ (whole : Sem Value) (pins : List (Addr × Obj)) (s : Shared) (σ : L2.St) (H : Hp) (Q : Bool → Hp → Prop), 1 ≤ s.toks → Inv X pins σ H s → tT X f σ H Q → wpAny (model X.prog X.w) X.A (isTrue e X.env whole) (TP X pins σ Q) X.xe s
structure FS1 (X : Cx) (st : Stmt) (f : FnS) : Prop where
  h : ∀ (pins : List (Addr × Obj)) (s : Shared) (σ : L2.St) (H : Hp) (D : Ends), 1 ≤ s.toks → Inv X pins σ H s → tS X f D σ H → wpAny (model X.prog X.w) X.A (exec st X.env) (SP X pins D) X.xe s
structure FSs1 (X : Cx) (st : List Stmt) (f : FnS) : Prop where
  h : ∀ (pins : List (Addr × Obj)) (s : Shared) (σ : L2.St) (H : Hp) (D : Ends), 1 ≤ s.toks → Inv X pins σ H s → tS X f D σ H → wpAny (model X.prog X.w) X.A (execs st X.env) (SP X pins D) X.xe s
structure FTg (X : Cx) (e : Expr) (f : FnB) : Prop where
  h : ∀ (pins : List (Addr × Obj)) (s : Shared) (σ : L2.St) (H : Hp) (Q : Bool → Hp → Prop), Inv X pins σ H s → tT X f σ H Q → wpAny (model X.prog X.w) X.A (isTrue e X.env (eval e X.env)) (fun b s' => (b = true ∨ 1 ≤ s'.toks) ∧ TP X pins σ Q b s') X.xe s
structure FWg (X : Cx) (e : Expr) (f : FnB) : Prop where
  h : ∀ (whole : Sem Value) (pins : List (Addr × Obj)) (s : Shared) (σ : L2.St) (H : Hp) (Q : Bool → Hp → Prop), Inv X pins σ H s → tT X f σ H Q → wpAny (model X.prog X.w) X.A (isTrue e X.env whole) (fun b s' => (b = true ∨ 1 ≤ s'.toks) ∧ TP X pins σ Q b s') X.xe s
def isNext : Flow → Bool
  | .next => true
  | _ => false
structure FSg (X : Cx) (st : Stmt) (f : FnS) : Prop where
  h : ∀ (pins : List (Addr × Obj)) (s : Shared) (σ : L2.St) (H : Hp) (D : Ends), Inv X pins σ H s → tS X f D σ H → wpAny (model X.prog X.w) X.A (exec st X.env) (fun fl s' => (isNext fl = false ∨ 1 ≤ s'.toks) ∧ SP X pins D fl s') X.xe s
section
variable {X : Cx} {a b o e : Expr} {fa fo : FnE} {ga gb : FnB} {f g : FnS} {rest : List Expr} {st : Stmt} {sts as bs : List Stmt} {pos apos cpos : Pos}
theorem FWg.ft (h : FWg X e ga) : FTg X e ga := ⟨h.h _⟩
end
end FD
namespace FD
open PySem PySem.Spec PyProof.Rows L2
section
variable {prog : Program} {w : World} {A : Around} {E : Value → Shared → Prop} {s : Shared}
end
section
variable {prog : Program} {w : World} {A : Around} {E : Value → Shared → Prop} {s : Shared}
end
end FD
namespace FD
open PySem PySem.Spec PyProof.Rows L2
structure ZSt (z TI TO i1 i2 a b : Addr) (i : Nat) (h : Heap) : Prop where
  z : IsZip h z TI TO .none
  ti : IsPair h TI (.ref i1) (.ref i2)
  to : ∃ p q, IsPair h TO p q
  j1 : h.IsTupleIter i1 a i
  j2 : h.IsTupleIter i2 b i
structure ZNe (z TI TO i1 i2 : Addr) : Prop where
  n1 : TI ≠ z
  n2 : TO ≠ z
  n3 : i1 ≠ z
  n4 : i2 ≠ z
  n5 : TI ≠ TO
  n6 : TI ≠ i1
  n7 : TI ≠ i2
  n8 : TO ≠ i1
  n9 : TO ≠ i2
  n10 : i1 ≠ i2
theorem five {z TI TO i1 i2 c : Addr} (h : c ∈ [z, TI, TO, i1, i2]) : c = z ∨ c = TI ∨ c = TO ∨ c = i1 ∨ c = i2 := by simpa using h
def tgG (X : Cx) (b : Dv → Ev → Option Ev) : TG := fun v σ H Q => ∃ d ρ ρ', Rep X.K H d v ∧ Envs X.K H σ ρ ∧ b d ρ = some ρ' ∧ ∀ σ' H', Same H H' → Envs X.K H' σ' ρ' → Q σ' H'
theorem FG.pg {X : Cx} {tg : Expr} {b : Dv → Ev → Option Ev} (h : FG X tg b) : PG X tg (tgG X b) := fun pins s σ H v u Q I r ⟨d, ρ, ρ', rd, E, e, q⟩ =>
  thn (h.h pins s σ H v u d ρ ρ' I r rd E e) fun _ s' ⟨σ', H', I', e1, E'⟩ => ⟨σ', H', I', q σ' H' e1 E'⟩
end FD
namespace FD
open PySem PySem.Spec PyProof.Rows L2
section
variable {X : Cx} {p pos : Pos} {e : Expr} {es : List Expr} {ga : FnA}
end
end FD
namespace FD
open PySem PySem.Spec PyProof.Rows L2
theorem Reps.set {K : PySem.W.Frag} {H : Hp} {d : Dv} {v : V} (rd : Rep K H d v) : ∀ {ds : List Dv} {vs : List V} (j : Nat), Reps K H ds vs → Reps K H (ds.set j d) (vs.set j v)
  | [], vs, j, r => by cases (show vs = [] from r); exact r
  | d0 :: ds, vs, 0, r => by
    obtain ⟨v0, vs', rfl, r0, rt⟩ : ∃ v us', vs = v :: us' ∧ Rep K H d0 v ∧ Reps K H ds us' := r
    exact ⟨v, vs', rfl, rd, rt⟩
  | d0 :: ds, vs, j + 1, r => by
    obtain ⟨v0, vs', rfl, r0, rt⟩ : ∃ v us', vs = v :: us' ∧ Rep K H d0 v ∧ Reps K H ds us' := r
    exact ⟨v0, vs'.set j v, rfl, r0, Reps.set rd j rt⟩
section
variable {X : Cx} {i : Nat} {e ix : Expr} {fe fi : FnE} {pos ps : Pos}
end
end FD
namespace FD
open PySem PySem.Spec PyProof.Rows L2
section
variable {X : Cx} {p pos : Pos} {e : Expr} {es : List Expr} {ga : FnA}
end
end FD
namespace FD
open PySem PySem.Spec PyProof.Rows L2
end FD
namespace FD
open PySem PySem.Spec PyProof.Rows L2
section
variable {X : Cx}
end
end FD
namespace FD
open PySem PySem.Spec PyProof.Rows L2
section
variable {X : Cx}
end
end FD
namespace ST
open PySem PySem.SetTable
abbrev Rise (xs : Array Nat) : Prop := xs.toList.Pairwise (· < ·)
theorem Rise.lt {xs : Array Nat} (R : Rise xs) {i k : Nat} (hi : i < xs.size) (hk : k < xs.size) (h : i < k) : xs[i] < xs[k] := by
  have := List.pairwise_iff_getElem.mp R i k (by simpa using hi) (by simpa using hk) h
  simpa using this
theorem Rise.le {xs : Array Nat} (R : Rise xs) {i k : Nat} (hi : i < xs.size) (hk : k < xs.size) (h : i ≤ k) : xs[i] ≤ xs[k] := by
  rcases Nat.lt_or_ge i k with h' | h'
  · exact Nat.le_of_lt (R.lt hi hk h')
  · have : i = k := by omega
    subst this
    exact Nat.le_refl _
def tm (m : Nat) : SetTable := { mask := m, place := #[], dummies := #[], finger := 0, led := true, moves := 0, plain := true }
def pos (m : Nat) (h : Int) (n : Nat) : Nat := (advN (tm m) n ((tm m).probeStart h)).j
def Pth (m : Nat) (l : List Nat) (h : Int) (j : Nat) : Prop := ∃ N, N < 10 * turns m ∧ pos m h N = j ∧ ∀ x, x < N → pos m h x ∈ l
theorem Pth.mono {m : Nat} {l l' : List Nat} {h : Int} {j : Nat} (p : Pth m l h j) (hs : ∀ x ∈ l, x ∈ l') : Pth m l' h j := by
  obtain ⟨N, h1, h2, h3⟩ := p
  exact ⟨N, h1, h2, fun x hx => hs _ (h3 x hx)⟩
def asc (t : SetTable) (es : Array (Int × Value)) : List (Nat × (Int × Value)) := t.place.toList.zip es.toList
def Pa (t : SetTable) (es : Array (Int × Value)) : Prop := ∀ je ∈ asc t es, Pth t.mask t.place.toList je.2.1 je.1
end ST
namespace ST
open PySem PySem.SetTable
section
variable {prog : Program} {w : World} {A : Around} {E : Value → Shared → Prop} {s : Shared}
def SetD (prog : Program) (w : World) (h : Heap) (S : Addr) (ks : List (List Str)) (n : Nat) : Prop :=
  ∃ o es ep t, h.get? S = some o ∧ o.ExactSet ∧ o.data = .set es ep t ∧ es.size = n ∧ Tb t n ∧ ((t.mask = 7 ∧ n ≤ 4) ∨ (t.mask = 31 ∧ n ≤ 18) ∨ (t.mask = 127 ∧ n ≤ 20)) ∧ Ent prog w h ks es.toList ∧ Rise t.place ∧ Pa t es ∧ ∀ k ∈ ks, ∃ a, (hsh prog w k, Value.ref a) ∈ es.toList ∧ TK prog w h k a
end
end ST
namespace ST
open PySem PySem.SetTable PyProof.Rows
def addK {α : Type} [DecidableEq α] (acc : List α) (k : α) : List α := if k ∈ acc then acc else k :: acc
def ddk {α : Type} [DecidableEq α] (ks : List α) : List α := ks.foldl addK []
theorem addK_len {α : Type} [DecidableEq α] (acc : List α) (k : α) : (addK acc k).length ≤ acc.length + 1 := by unfold addK; split <;> simp
theorem fold_addK_len {α : Type} [DecidableEq α] : ∀ (ks acc : List α), (ks.foldl addK acc).length ≤ acc.length + ks.length
  | [], acc => Nat.le_refl _
  | k :: ks, acc => by
    have h1 := fold_addK_len ks (addK acc k)
    have h2 := addK_len acc k
    rw [List.foldl_cons, List.length_cons]
    omega
theorem ddk_le {α : Type} [DecidableEq α] (ks : List α) : (ddk ks).length ≤ ks.length := by
  have := fold_addK_len ks []
  unfold ddk
  simpa using this
section
variable {prog : Program} {w : World} {A : Around} {R : Result → Shared → Prop} {I : Addr} {fp wr : List Addr} {G : Array GenState → Array GenState → Prop} {n : Nat} {P : Nat → Value → Prop} {St : Nat → Shared → Prop}
theorem SetD.moved {h h' : Heap} {S : Addr} {ks : List (List Str)} {n : Nat} (x : SetD prog w h S ks n) (hS : ∀ o, h.get? S = some o → h'.get? S = some o) (hm : ∀ k a, TK prog w h k a → TK prog w h' k a) : SetD prog w h' S ks n := by
  obtain ⟨o, es, ep, t, ho, hex, hd, hsz, T, hmk, hE, R, hP, hA⟩ := x
  exact ⟨o, es, ep, t, hS _ ho, hex, hd, hsz, T, hmk, fun e he => let ⟨k, a, h1, h2, h3⟩ := hE e he; ⟨k, a, h1, h2, hm k a h3⟩, R, hP, fun k hk => let ⟨a, q1, q2⟩ := hA k hk; ⟨a, q1, hm k a q2⟩⟩
end
section
variable {prog : Program} {w : World} {A : Around} {E : Value → Shared → Prop} {s : Shared}
end
end ST
namespace FD
open PySem PySem.Spec PyProof.Rows L2
theorem range_getD {α : Type} (ks : List α) (d : α) (n : Nat) (h : n = ks.length) : (List.range n).map (fun i => ks.getD i d) = ks := by
  subst h
  apply List.ext_getElem?
  intro i
  by_cases hi : i < ks.length
  · simp [hi]
  · simp [hi]
section
variable {X : Cx} {p p2 pos pos2 : Pos} {e : Expr} {ga : FnA}
end
end FD
namespace FD
open PySem PySem.Spec PyProof.Rows L2
section
variable {prog : Program} {w : World} {A : Around} {E : Value → Shared → Prop} {s : Shared}
end
section
variable {prog : Program} {w : World} {A : Around} {E : Value → Shared → Prop} {s : Shared}
end
structure ZMt (z TI TO i1 i2 a b : Addr) (i : Nat) (h : Heap) : Prop where
  z : IsZip h z TI TO .none
  ti : IsPair h TI (.ref i1) (.ref i2)
  to : ∃ p q, IsPair h TO p q
  j1 : h.IsTupleIter i1 a i
  j2 : h.IsListIter i2 b i
end FD
namespace FD
open PySem PySem.Spec PyProof.Rows L2
def tC (X : Cx) (i : Nat) (fc : FnE) : TS := fun D σ H => ∃ ρ, Envs X.K H σ ρ ∧ match fc ρ with
  | none => False
  | some (.exc c) => XW X c H
  | some (.ok d) => ∃ ys, d = .lst ys ∧ ∀ H5 p vs, Same H H5 → H5 p = none → Reps X.K H5 ys vs → D.nx (σ.set i (some (.ref p))) (upd H5 p (.lst vs))
theorem ps_setC {X : Cx} {tg elt iter : Expr} {ifs : List Expr} {scope : Scope} {pos : Pos} {src : FnA} {tst : Option FnB} {fe : FnE} {b : Dv → Ev → Option Ev} {y : Str} {py spos : Pos} (i : Nat) (hnd : X.N.Nodup) (hiy : X.N[i]? = some y) (hxy : Loc X.env.scope y) (hfy : X.fn y = true ∨ X.env.scope.names.lookup y = some .local)
    (osc : Scope) (N ns : List Str) (js : List Nat) (cs : List (Str × Nat)) (hosc : X.env.scope = osc) (hN : X.N = N) (ok : CompOkG osc scope cs N) (hcl : closureFor scope X.env = pure (clOf scope.names X.env [])) (hc : X.calm = true)
    (hback : ∀ ρ d ρ', b d (capG ns.length cs ρ) = some ρ' → fgt js ρ' = capG ns.length cs ρ)
    (hi : FIG X tg iter src) (htg : ∀ C s H fp, FG (compCx X (ns ++ cs.map (·.1)) scope C s H fp) tg b) (helt : ∀ C s H fp, FE (compCx X (ns ++ cs.map (·.1)) scope C s H fp) elt fe) (hifs : ∀ C s H fp, FIfs (compCx X (ns ++ cs.map (·.1)) scope C s H fp) ifs tst)
    (hsw : swapsWith (.ListComp elt [⟨tg, iter, ifs, 0⟩] scope pos) (some (.Name y py)) spos.line X.env = pure true := by kernel_rfl)
    (hs : ∀ x, foldedSetIterable iter X.env x = pure x := by intro _; kernel_rfl) : PS X (.Assign [.Name y py] (.ListComp elt [⟨tg, iter, ifs, 0⟩] scope pos) spos) (tC X i (fCompG ns.length cs src b tst fe)) := by
  subst hosc hN
  intro pins s σ H D0 I h
  obtain ⟨ρ, E, o⟩ := h
  match ho : fCompG ns.length cs src b tst fe ρ with
  | none => rw [ho] at o; exact o.elim
  | some r =>
    rw [ho] at o
    have key : OutG X H (src ρ) fun J H' => ∃ ds ys, Same H H' ∧ WkG X.K J ds H' ∧ ds.length ≤ 100000 ∧ ys.length ≤ 100000 ∧ mapG b tst fe (capG ns.length cs ρ) ds = some ys ∧ (∀ H5 p vs, Same H' H5 → H5 p = none → Reps X.K H5 ys vs → D0.nx (σ.set i (some (.ref p))) (upd H5 p (.lst vs))) := by
      rcases keyG ho with ⟨c, e1, e2⟩ | ⟨ds, ys, e1, e2, l1, l2, e3⟩
      · subst e2; rw [e1]; exact o
      · subst e3; rw [e1]; obtain ⟨ys', ey, o⟩ := o; cases ey; exact fun J H' e wk => ⟨ds, ys, e, wk, l1, l2, e2, fun H5 p vs e3 hp r => o H5 p vs (e.trans e3) hp r⟩
    rw [exec_Assign_Name_used _ _ _ _ hsw]
    refine wpAny_bind (wpAny_standAt (wpAny_bind ?_))
    show wpAny _ X.A (do let _ ← comprehension (.ListComp elt [⟨tg, iter, ifs, 0⟩] scope pos) scope X.env _ (newList []) false (eval iter X.env) (some (assign (.Name y py) X.env))) _ _ s
    refine wpAny_bind (wpAny_mono (wpAny_comprehension_free (use := some (assign (.Name y py) X.env)) (Q := fun _ s' => SP X pins D0 .next s') rfl hs hcl ok.kind ok.names
      (thn (hi.h pins s σ H _ I ⟨ρ, E, key⟩) fun v s1 h1 => thn h1 fun itv s2 h2 => ?_)) (fun _ s' hq => wpAny_pure (wpAny_pure hq)) fun _ _ e => e)
    obtain ⟨it, fp, tn, J, H2, e, I2, T, st2, f2, ds, ys, e12, wk, hdl, hyl, hm, hQ⟩ := h2
    subst e
    refine comp_core cs ok hc htg helt hifs hback (E.mono e12) I2 T st2 f2 wk hdl hyl hm (RR := fun acc C => compPost (model X.prog X.w) X.A X.xe (some (assign (.Name y py) X.env)) (fun _ s' => SP X pins D0 .next s') acc C) fun D C s6 H5 vs m6 I6 D5 e5 r5 n6 C6 CD hC => ?_
    have Cn : (upd H5 D (.lst vs)) C = none := by rw [upd_ne CD]; exact C6
    have FC := I2.fpOk hC Cn
    obtain ⟨oC, es, ep, hoC, hdC, rC⟩ := id n6
    have I6p := I6.pinned (fp := [C]) (fun b hb => by have e : b = C := by simpa using hb
                                                      subst e; exact FC) (fun b hb => by
      have e : b = C := by simpa using hb
      subst e
      exact ⟨oC, hoC, fun v z => by rw [hdC] at z; cases z⟩)
    refine thn (pg_name hnd hiy hxy hfy _ s6 σ _ (.ref D) (.ref D) (fun σ' H' => σ' = σ.set i (some (.ref D)) ∧ H' = upd H5 D (.lst vs)) I6p rfl ⟨rfl, rfl⟩) fun _ s8 ⟨σ8, H8, I8, e1, e2⟩ => ?_
    subst e1 e2
    have hC8 := (I8.pin (C, oC) (List.mem_append_right _ (List.mem_append_right _ (mem_pinsAt (by simp) hoC)))).1
    refine ⟨m6, ⟨oC, es, ep, hC8, hdC, rC⟩, fun h9 sb9 => ?_⟩
    have I8' : Inv X pins (σ.set i (some (.ref D))) (upd H5 D (.lst vs)) s8 := I8.unpinned
    obtain ⟨q0, q1, q2, q3, q4, q5⟩ := FC
    have I9 : Inv X pins (σ.set i (some (.ref D))) (upd H5 D (.lst vs)) { s8 with heap := h9 } := I8'.turned (t' := s8.toks) (fun b o hb e => sb9.extBut b o hb e) q0 q1 q3 q4 q5
    exact ⟨_, _, I9, hQ H5 D vs e5 D5 r5⟩
section
variable {X : Cx} {i : Nat} {st : Stmt} {sts : List Stmt} {f : FnO2} {fc : FnE}
theorem compG_lst {n : Nat} {cs : List (Str × Nat)} {src : FnA} {b : Dv → Ev → Option Ev} {tst : Option FnB} {fe : FnE} (ρ : Ev) (d : Dv) (h : fCompG n cs src b tst fe ρ = some (.ok d)) : ∃ ys, d = .lst ys := by
  rcases keyG h with ⟨c, e1, e2⟩ | ⟨ds, ys, e1, e2, l1, l2, e3⟩
  · cases e2
  · cases e3; exact ⟨ys, rfl⟩
end
end FD
namespace FD
open PySem PySem.Spec PyProof.Rows L2
def insB {α : Type} (le : α → α → Bool) (x : α) : List α → List α
  | [] => [x]
  | y :: l => if le x y then x :: y :: l else y :: insB le x l
def isortB {α : Type} (le : α → α → Bool) : List α → List α
  | [] => []
  | x :: l => insB le x (isortB le l)
theorem insB_perm {α : Type} (le : α → α → Bool) (x : α) : ∀ l : List α, (insB le x l).Perm (x :: l)
  | [] => .refl _
  | y :: l => by
    unfold insB
    split
    · exact .refl _
    · exact ((insB_perm le x l).cons y).trans (List.Perm.swap ..)
theorem isortB_perm {α : Type} (le : α → α → Bool) : ∀ l : List α, (isortB le l).Perm l
  | [] => .refl _
  | x :: l => (insB_perm le x _).trans ((isortB_perm le l).cons x)
structure Ord3 {α : Type} (le : α → α → Bool) : Prop where
  t : ∀ a b, le a b = false → le b a = true
  tr : ∀ a b c, le a b = true → le b c = true → le a c = true
  an : ∀ a b, le a b = true → le b a = true → a = b
theorem insB_sorted {α : Type} {le : α → α → Bool} (o : Ord3 le) (x : α) : ∀ l : List α, l.Pairwise (fun a b => le a b = true) → (insB le x l).Pairwise (fun a b => le a b = true)
  | [], _ => by simp [insB]
  | y :: l, h => by
    unfold insB
    rw [List.pairwise_cons] at h
    split
    · rename_i hc
      rw [List.pairwise_cons, List.pairwise_cons]
      refine ⟨fun z hz => ?_, h⟩
      rcases List.mem_cons.mp hz with rfl | hz
      · exact hc
      · exact o.tr _ _ _ hc (h.1 z hz)
    · rename_i hc
      rw [List.pairwise_cons]
      refine ⟨fun z hz => ?_, insB_sorted o x l h.2⟩
      rcases List.mem_cons.mp ((insB_perm le x l).mem_iff.mp hz) with rfl | hz
      · exact o.t _ _ (by simpa using hc)
      · exact h.1 z hz
theorem isortB_sorted {α : Type} {le : α → α → Bool} (o : Ord3 le) : ∀ l : List α, (isortB le l).Pairwise (fun a b => le a b = true)
  | [] => List.Pairwise.nil
  | x :: l => insB_sorted o x _ (isortB_sorted o l)
theorem sorted_uniq {α : Type} {le : α → α → Bool} (o : Ord3 le) : ∀ {l m : List α}, l.Perm m → l.Pairwise (fun a b => le a b = true) → m.Pairwise (fun a b => le a b = true) → l = m
  | [], m, hp, _, _ => (List.Perm.nil_eq hp)
  | x :: l, [], hp, _, _ => by simpa using hp.length_eq
  | x :: l, y :: m, hp, h1, h2 => by
    rw [List.pairwise_cons] at h1 h2
    have e : x = y := by
      have hx : x ∈ y :: m := hp.mem_iff.mp List.mem_cons_self
      have hy : y ∈ x :: l := hp.mem_iff.mpr List.mem_cons_self
      rcases List.mem_cons.mp hx with e | hx
      · exact e
      · rcases List.mem_cons.mp hy with e | hy
        · exact e.symm
        · exact o.an _ _ (h1.1 y hy) (h2.1 x hx)
    subst e
    rw [sorted_uniq o (hp.cons_inv) h1.2 h2.2]
def leS (a b : Str) : Bool := !decide (b.cps.toList < a.cps.toList)
theorem ordS : Ord3 leS where
  t := fun a b h => by
    simp only [leS, Bool.not_eq_false', decide_eq_true_eq] at h
    simp only [leS, Bool.not_eq_true', decide_eq_false_iff_not]
    exact fun h' => List.lt_irrefl _ (List.lt_trans h h')
  tr := fun a b c h h' => by
    simp only [leS, Bool.not_eq_true', decide_eq_false_iff_not, List.not_lt] at *
    exact List.le_trans h h'
  an := fun a b h h' => by
    simp only [leS, Bool.not_eq_true', decide_eq_false_iff_not, List.not_lt] at *
    have e : a.cps.toList = b.cps.toList := List.le_antisymm h h'
    obtain ⟨⟨a⟩⟩ := a; obtain ⟨⟨b⟩⟩ := b
    simp at e
    rw [e]
section
variable {X : Cx} {pins : List (Addr × Obj)} {σ : L2.St} {H : Hp} {s : Shared}
theorem strs_are {K : PySem.W.Frag} : ∀ {ds : List Dv} {ns : List Str} {ys : List V} {its : List Value}, strsOf ds = some ns → Reps K H ds ys → Vals ys its → StrsAre its ns
  | [], ns, ys, its, h, r, v => by
    cases h
    cases (show ys = [] from r)
    cases v
    exact .nil
  | .str i :: ds, ns, ys, its, h, r, v => by
    obtain ⟨y, us, rfl, r1, r2⟩ : ∃ v us, ys = v :: us ∧ Rep K H (.str i) v ∧ Reps K H ds us := r
    cases (show y = .str i from r1)
    obtain ⟨k', h1, rfl⟩ := Option.map_eq_some_iff.mp (show (strsOf ds).map (i :: ·) = some ns from h)
    cases v with
    | cons v1 v2 =>
      obtain ⟨t, rfl⟩ := v1
      exact .cons i t (strs_are h1 r2 v2)
  | .non :: ds, _, _, _, h, _, _ => by cases h
  | .bl _ :: ds, _, _, _, h, _, _ => by cases h
  | .int _ :: ds, _, _, _, h, _, _ => by cases h
  | .tup _ :: ds, _, _, _, h, _, _ => by cases h
  | .lst _ :: ds, _, _, _, h, _, _ => by cases h
  | .scr _ :: ds, _, _, _, h, _, _ => by cases h
  | .exn _ :: ds, _, _, _, h, _, _ => by cases h
theorem vals_ints : ∀ {its : List Value} {ns : List Int}, IntsAre its ns → Vals (ns.map V.int) its
  | _, _, .nil => .nil
  | _, _, .cons n t h => .cons ⟨t, rfl⟩ (vals_ints h)
theorem vals_strs2 : ∀ {its : List Value} {ns : List Str}, StrsAre its ns → Vals (ns.map V.str) its
  | _, _, .nil => .nil
  | _, _, .cons n t h => .cons ⟨t, rfl⟩ (vals_strs2 h)
theorem reps_strs2 {K : PySem.W.Frag} (H : Hp) : ∀ ns : List Str, Reps K H (ns.map Dv.str) (ns.map V.str)
  | [] => rfl
  | n :: ns => ⟨_, _, rfl, rfl, reps_strs2 H ns⟩
theorem rising_pw : ∀ (p : Str) (l : List Str), risingS p l = true → (p :: l).Pairwise (fun a b => leS a b = true)
  | p, [], _ => by simp
  | p, x :: r, h => by
    have h' : (!ltCps x.cps.toList p.cps.toList) = true ∧ risingS x r = true := by simpa [risingS] using h
    have ih := rising_pw x r h'.2
    have hx : leS p x = true := by
      unfold leS
      rw [← ltCps_eq]
      exact h'.1
    rw [List.pairwise_cons]
    refine ⟨fun z hz => ?_, ih⟩
    rw [List.pairwise_cons] at ih
    rcases List.mem_cons.mp hz with rfl | hz
    · exact hx
    · exact ordS.tr _ _ _ hx (ih.1 z hz)
theorem sortedS_pw (l : List Str) (h : sortedS l = true) : l.Pairwise (fun a b => leS a b = true) := by
  cases l with
  | nil => exact .nil
  | cons x r => exact rising_pw x r h
theorem line64 {n : Nat} (h : n < 64) : n ≤ sizeLine := by
  have : sizeLine = 16777216 := by decide
  omega
end
section
variable {X : Cx} {p pos : Pos} {e : Expr} {es : List Expr} {ga : FnA}
end
section
variable {X : Cx} {p pos : Pos} {e : Expr} {es : List Expr} {ga : FnA}
end
section
variable {X : Cx} {p pos : Pos} {e : Expr} {es : List Expr} {ga : FnA}
end
end FD
namespace FD
open PySem PySem.Spec PyProof.Rows L2
section
variable {prog : Program} {w : World} {A : Around} {E : Value → Shared → Prop} {s : Shared}
end
section
variable {prog : Program} {w : World} {A : Around} {E : Value → Shared → Prop} {s : Shared}
end
end FD
namespace FD
open PySem PySem.Spec PyProof.Rows L2
theorem mapF_G {tst : Option FnB} {elt : FnE} {cap : Ev} : ∀ ds : List Dv, mapF tst elt cap ds = mapG (gN 0) tst elt cap ds
  | [] => rfl
  | d :: ds => by
    unfold mapF mapG
    rw [mapF_G ds]
    rfl
theorem fComp_G (cs : List (Str × Nat)) (src : FnA) (tst : Option FnB) (fe : FnE) : fComp cs src tst fe = fCompG 1 cs src (gN 0) tst fe := by
  funext ρ
  show bnd (src ρ) _ = bnd (src ρ) _
  congr 1
  funext ds
  rw [mapF_G]
  rfl
theorem fe_compF {X : Cx} {tg elt iter : Expr} {ifs : List Expr} {scope : Scope} {pos : Pos} {src : FnA} {tst : Option FnB} {fe : FnE} (osc : Scope) (N ns : List Str) (js : List Nat) (cs : List (Str × Nat)) (hosc : X.env.scope = osc) (hN : X.N = N) (ok : CompOkG osc scope cs N) (hcl : closureFor scope X.env = pure (clOf scope.names X.env [])) (hc : X.calm = true)
    (hback : ∀ ρ d ρ', gN 0 d (capG ns.length cs ρ) = some ρ' → fgt js ρ' = capG ns.length cs ρ)
    (hi : FIG X tg iter src) (htg : ∀ C s H fp, FG (compCx X (ns ++ cs.map (·.1)) scope C s H fp) tg (gN 0)) (helt : ∀ C s H fp, FE (compCx X (ns ++ cs.map (·.1)) scope C s H fp) elt fe) (hifs : ∀ C s H fp, FIfs (compCx X (ns ++ cs.map (·.1)) scope C s H fp) ifs tst) (h1 : ns.length = 1 := by rfl)
    (hs : ∀ x, foldedSetIterable iter X.env x = pure x := by intro _; kernel_rfl) : FE X (.ListComp elt [⟨tg, iter, ifs, 0⟩] scope pos) (fComp cs src tst fe) := by
  have h := fe_compG (pos := pos) osc N ns js cs hosc hN ok hcl hc hback hi htg helt hifs hs
  rw [h1] at h
  rw [fComp_G]
  exact h
theorem fs_setF {X : Cx} {st : Stmt} {i : Nat} {fc : FnE} (h : PS X st (tC X i fc)) (hl : ∀ ρ d, fc ρ = some (.ok d) → ∃ ys, d = .lst ys) : FS X st (fSet i fc) := ⟨fun pins s σ H D I ⟨ρ, E, o⟩ => by
  refine h pins s σ H D I ⟨ρ, E, ?_⟩
  unfold fSet at o
  match hf : fc ρ with
  | none => rw [hf] at o; exact o.elim
  | some (.exc c) => rw [hf] at o; exact o
  | some (.ok d) =>
    rw [hf] at o
    obtain ⟨ys, rfl⟩ := hl ρ d hf
    exact ⟨ys, rfl, fun H5 p vs e5 hp rs => o _ _ (e5.trans (same_new hp _)) ((E.mono (e5.trans (same_new hp _))).set ⟨p, vs, rfl, upd_same, Reps.mono (same_new hp _) _ _ rs⟩)⟩⟩
end FD
namespace ST
open PySem PySem.SetTable PyProof.Rows
abbrev byT (w : World) : Bool := w.params.followText "set-order"
def SetS (prog : Program) (w : World) (h : Heap) (S : Addr) (ks : List Str) : Prop :=
  ∃ o es ep t, h.get? S = some o ∧ o.ExactSet ∧ o.data = .set es ep t ∧ t.fits es.size = true ∧ ks.length ≤ 60 ∧ t.led = (!byT w) ∧ (es.size ≠ 0 → t.plain = false) ∧ ElemsOf (PySem.strKind prog w) es.toList ∧ (∀ e ∈ es.toList, ∃ x t, e.2 = .str x t) ∧ (es.toList.map fun e => strOf e.2).Perm ks
theorem or_led (t : SetTable) (n : Nat) : (t.orStandIn n).led = t.led ∧ ((t.orStandIn n).plain = t.plain ∨ (t.orStandIn n).plain = false) := by
  unfold SetTable.orStandIn
  split
  · exact ⟨rfl, .inl rfl⟩
  · exact ⟨rfl, .inr rfl⟩
theorem lay_led (t : SetTable) (es : Array (Int × Value)) (h : Int) (x : Value) : (layNew t es h x).2.1.led = t.led := by
  unfold layNew
  split
  · exact (or_led _ _).1
  · rfl
theorem laid_led {m finger moves : Nat} {led plain : Bool} {hs : Array Int} {t : SetTable} {order : Array Nat} (e : laid m finger moves led plain hs = some (t, order)) : t.led = led ∧ t.plain = plain := by
  unfold laid at e
  cases hc : layClean m hs with
  | none => rw [hc] at e; cases e
  | some o => rw [hc] at e; cases e; exact ⟨rfl, rfl⟩
theorem relay_led (t : SetTable) (es : Array (Int × Value)) (n : Nat) (hp : t.plain = false) : (relayAll t es n).2.1.led = t.led ∧ (relayAll t es n).2.1.plain = false := by
  unfold relayAll
  split
  · rename_i t' order e
    obtain ⟨h1, h2⟩ := laid_led e
    dsimp only
    split
    · exact ⟨h1, h2.trans hp⟩
    · exact ⟨rfl, rfl⟩
  · exact ⟨rfl, rfl⟩
section
variable {prog : Program} {w : World} {A : Around} {E : Value → Shared → Prop} {s : Shared}
theorem set_put {h : Heap} {S : Addr} {o : Obj} {es : Array (Int × Value)} {ep : Nat} {t : SetTable} (ho : h.get? S = some o) (hex : o.ExactSet) (hd : o.data = .set es ep t) {es' : Array (Int × Value)} {t' : SetTable} {ks : List Str} (hf : t'.fits es'.size = true) (hk : ks.length ≤ 60) (hl : t'.led = (!byT w)) (hp : t'.plain = false)
    (hel : ElemsOf (PySem.strKind prog w) es'.toList) (hs : ∀ e ∈ es'.toList, ∃ x t, e.2 = .str x t) (hm : (es'.toList.map fun e => strOf e.2).Perm ks) : SetS prog w (h.update S (Obj.putSet es' t')) S ks := by
  have hg := Heap.get?_update_self (Obj.putSet es' t') ho (by rw [putSet_of es' t' hd]; rfl)
  rw [putSet_of es' t' hd] at hg
  exact ⟨_, es', ep + 1, t', hg, hex, rfl, hf, hk, hl, fun _ => hp, hel, hs, hm⟩
theorem perm_strs {l l' : List (Int × Value)} (p : l'.Perm l) (hs : ∀ e ∈ l, ∃ x t, e.2 = Value.str x t) {ks : List Str} (hm : (l.map fun e => strOf e.2).Perm ks) : (∀ e ∈ l', ∃ x t, e.2 = Value.str x t) ∧ (l'.map fun e => strOf e.2).Perm ks :=
  ⟨fun e he => hs e (p.mem_iff.mp he), (p.map _).trans hm⟩
theorem ks_mem {es : Array (Int × Value)} {ks : List Str} {k : Str} (hs : ∀ e ∈ es.toList, ∃ x t, e.2 = .str x t) (hm : (es.toList.map fun e => strOf e.2).Perm ks) : (∃ e ∈ es.toList, (PySem.strKind prog w).is k e.2 = true) ↔ k ∈ ks := by
  rw [← hm.mem_iff, List.mem_map]
  constructor
  · rintro ⟨e, he, hk⟩
    obtain ⟨x, t, ex⟩ := hs e he
    refine ⟨e, he, ?_⟩
    rw [ex] at hk ⊢
    have : (x == k) = true := by simpa [PySem.strKind, Value.isStrOf] using hk
    show x = k
    simpa using this
  · rintro ⟨e, he, hk⟩
    obtain ⟨x, t, ex⟩ := hs e he
    refine ⟨e, he, ?_⟩
    rw [ex] at hk ⊢
    have : x = k := hk
    rw [this]
    simp [PySem.strKind, Value.isStrOf]
theorem addS {S : Addr} {ks : List Str} {k : Str} {tk : Tok} {Q : Bool → Shared → Prop} (hS : SetS prog w s.heap S ks) (hn : ks.length < 60)
    (h : ∀ b h', Heap.SameBut S s.heap h' → SetS prog w h' S (addK ks k) → Q b { s with heap := h' }) : wpAny (model prog w) A (setAddHashed S (.str k tk) ((PySem.strKind prog w).hash k)) Q E s := by
  obtain ⟨o, es, ep, t, ho, hex, hd, hf, hk60, hl, hp, hel, hs, hm⟩ := id hS
  have hkey : (PySem.strKind prog w).is k (.str k tk) = true := strKind_is prog w k tk
  have hsc : (Value.str k tk).scannable = true := rfl
  have hlen : es.size = ks.length := by have := hm.length_eq; simpa using this
  have hb : es.size < scanBound := by rw [hlen]; unfold scanBound; omega
  unfold setAddHashed setAddHashedIn
  refine wpAny_holding (wpAny_bind (wpAny_setState_of ho hd hf ?_))
  dsimp only
  rw [byScan_of hsc hb hel, if_pos rfl]; unfold setAddByScan
  refine wpAny_bind (wpAny_bind (wpAny_rule (wpAny_bind (wpAny_setScan_of hkey ho hd hf hel ?_))))
  have gv : ∀ (b : Bool) {s₁ : Shared} {Q' : Unit → Shared → Prop}, Q' () s₁ → wpAny (model prog w) A (match b with | true => rule "set.scan.the-table-gave-way" | false => pure ()) Q' E s₁ := fun b _ _ z => by
    cases b
    · exact wpAny_pure z
    · exact wpAny_rule z
  cases hr : List.findIdx? (fun e => (PySem.strKind prog w).is k e.2) es.toList with
  | some j =>
    obtain ⟨hj, pj, _⟩ := List.findIdx?_eq_some_iff_getElem.mp hr
    have hin : k ∈ ks := (ks_mem (prog := prog) (w := w) hs hm).mp ⟨es.toList[j], List.getElem_mem hj, pj⟩
    dsimp only
    refine wpAny_pure (wpAny_pure ?_)
    have e : s = { s with heap := s.heap } := by cases s; rfl
    rw [e]
    refine h _ s.heap (Heap.SameBut.refl S s.heap) ?_
    unfold addK
    rw [if_pos hin]
    exact hS
  | none =>
    have hout : k ∉ ks := fun z => by
      obtain ⟨e, he, q⟩ := (ks_mem (prog := prog) (w := w) hs hm).mpr z
      have := List.findIdx?_eq_none_iff.mp hr e he
      rw [q] at this
      cases this
    dsimp only
    have hperm := layNew_perm t es ((PySem.strKind prog w).hash k) (.str k tk)
    have hfits := layNew_fits t es ((PySem.strKind prog w).hash k) (.str k tk)
    have hled := lay_led t es ((PySem.strKind prog w).hash k) (.str k tk)
    generalize layNew t es ((PySem.strKind prog w).hash k) (.str k tk) = L at hperm hfits hled ⊢
    obtain ⟨es1, t1, wd, gave⟩ := L
    dsimp only at hperm hfits hled ⊢
    rw [Array.toList_push] at hperm
    have el1 : ElemsOf (PySem.strKind prog w) es1.toList := (hel.push hkey hsc).perm hperm
    have eK : addK ks k = k :: ks := by unfold addK; rw [if_neg hout]
    obtain ⟨s1, m1⟩ := perm_strs hperm (ks := k :: ks) (fun e he => by
      rcases List.mem_append.mp he with he | he
      · exact hs e he
      · rw [List.mem_singleton.mp he]; exact ⟨k, tk, rfl⟩) (by
      rw [List.map_append]
      exact (hm.append_right _).trans (List.perm_append_singleton k ks))
    have z1 : es1.size = ks.length + 1 := by have := m1.length_eq; simpa using this
    have hb1 : es1.size < scanBound := by rw [z1]; unfold scanBound; omega
    refine wpAny_bind (gv _ ?_)
    have tail : ∀ t2 : SetTable, t2.fits es1.size = true → t2.led = (!byT w) → t2.plain = false → wpAny (model prog w) A (do
        storeSet S es1 t2
        if (!wd && t2.tooFull) = true then do
            (match (relayAll t2 es1 (SetTable.grown es1.size)).2.2 with | true => rule "set.scan.the-table-gave-way" | false => pure ())
            storeSet S (relayAll t2 es1 (SetTable.grown es1.size)).1 (relayAll t2 es1 (SetTable.grown es1.size)).2.1
            pure (some true)
          else pure (some true)) (fun a s' => wpAny (model prog w) A (match a with | some added => pure added | none => setAddHashedIn S (.str k tk) ((PySem.strKind prog w).hash k) 99999) Q E s') E s := by
      intro t2 f2 l2 p2
      refine wpAny_bind (wpAny_storeSet_of ho hd ?_ (fits_of_scanBound hb1))
      have S1 : SetS prog w (s.heap.update S (Obj.putSet es1 t2)) S (addK ks k) := by
        rw [eK]
        exact set_put ho hex hd f2 (by simp; omega) l2 p2 el1 s1 m1
      have sb1 := Heap.SameBut.update s.heap S (Obj.putSet es1 t2)
      split
      · have hp2 := relayAll_perm t2 es1 (SetTable.grown es1.size)
        have hf2 := relayAll_fits t2 es1 (SetTable.grown es1.size)
        obtain ⟨q1, q2⟩ := relay_led t2 es1 (SetTable.grown es1.size) p2
        generalize relayAll t2 es1 (SetTable.grown es1.size) = L2 at hp2 hf2 q1 q2 ⊢
        obtain ⟨es2, t3, g2⟩ := L2
        dsimp only at hp2 hf2 q1 q2 ⊢
        obtain ⟨s2, m2⟩ := perm_strs hp2 s1 m1
        have z2 : es2.size = es1.size := by rw [← Array.length_toList, hp2.length_eq, Array.length_toList]
        have ho1 := Heap.get?_update_self (Obj.putSet es1 t2) ho (by rw [putSet_of es1 t2 hd]; rfl)
        rw [putSet_of es1 t2 hd] at ho1
        refine wpAny_bind (gv _ (wpAny_bind (wpAny_storeSet_of ho1 rfl ?_ (fits_of_scanBound (by rw [z2]; exact hb1)))))
        refine wpAny_pure (wpAny_pure (h _ _ (sb1.trans (Heap.SameBut.update _ S _)) ?_))
        rw [eK]
        exact set_put ho1 hex rfl hf2 (by simp; omega) (q1.trans l2) q2 (el1.perm hp2) s2 m2
      · exact wpAny_pure (wpAny_pure (h _ _ sb1 S1))
    split
    · rename_i hpl
      refine wpAny_bind ?_
      rw [hashByValue_scannable 8 hsc]
      refine wpAny_pure ?_
      exact tail _ (SetTable.fits_plain_off hfits) (hled.trans hl) rfl
    · rename_i hpl
      refine wpAny_bind (wpAny_pure ?_)
      exact tail _ hfits (hled.trans hl) (by simpa using hpl)
end
end ST
namespace ST
open PySem PySem.SetTable PyProof.Rows
section
variable {prog : Program} {w : World} {A : Around} {R : Result → Shared → Prop} {I : Addr} {fp wr : List Addr} {G : Array GenState → Array GenState → Prop} {n : Nat} {P : Nat → Value → Prop} {St : Nat → Shared → Prop}
theorem SetS.moved {h h' : Heap} {S : Addr} {ks : List Str} (x : SetS prog w h S ks) (hS : ∀ o, h.get? S = some o → h'.get? S = some o) : SetS prog w h' S ks := by
  obtain ⟨o, es, ep, t, ho, r⟩ := x
  exact ⟨o, es, ep, t, hS _ ho, r⟩
theorem loopV (W : WalksS prog w A.in1 I fp wr G n P St) (S : Addr) (hSf : S ∉ fp) (key : Nat → Str) (hval : ∀ i v, P i v → ∃ tk, v = .str (key i) tk) (hn : n ≤ 59) :
    ∀ (k i : Nat) (s : Shared), n - i = k → i ≤ n → St i s → SetS prog w s.heap S (ddk ((List.range i).map key)) →
      (∀ s', Moved (S :: wr) G s s' → SetS prog w s'.heap S (ddk ((List.range n).map key)) → R (.ok (.ret .none)) s') →
      codeAny (model prog w) A (.builtin "set.update.loop" ⟨[.ref S, .ref I], []⟩) R s := by
  have hSw : S ∉ wr := fun h => hSf (W.sub _ h)
  have hsub : ∀ b ∈ wr, b ∈ S :: wr := fun b hb => List.mem_cons_of_mem _ hb
  intro k
  induction k with
  | zero =>
    intro i s hk hi hst hS hR
    have hin : i = n := by omega
    subst hin
    refine codeAny_builtin F.entry_set_update_loop ?_
    rw [Around.under_plainId F.plain_set_update_loop _]
    show wpAny _ A.in1 (pyNext (.ref I) >>= _) _ _ s
    refine wpAny_bind (W.done s _ _ hst fun s' hm => ?_)
    show wpAny _ A.in1 (ret Value.none) _ _ s'
    exact wpAny_pure (hR s' (hm.mono hsub) (hS.moved fun o ho => hm.heap S _ hSw ho))
  | succ k ih =>
    intro i s hk hi hst hS hR
    have hlt : i < n := by omega
    refine codeAny_builtin F.entry_set_update_loop ?_
    rw [Around.under_plainId F.plain_set_update_loop _]
    show wpAny _ A.in1 (pyNext (.ref I) >>= _) _ _ s
    refine wpAny_bind (W.item i s _ _ hlt hst fun v s' hP hst' hm => ?_)
    obtain ⟨tk, rfl⟩ := hval i v hP
    have hS' : SetS prog w s'.heap S (ddk ((List.range i).map key)) := hS.moved fun o ho => hm.heap S _ hSw ho
    show wpAny _ A.in1 (holding [Value.str (key i) tk] (setAdd S (.str (key i) tk)) >>= _) _ _ s'
    refine wpAny_bind (wpAny_holding ?_)
    unfold setAdd
    refine wpAny_holding ?_
    refine wpAny_bind ((PySem.strKind prog w).pyHash (strKind_is prog w (key i) tk) ?_)
    have estep : ddk ((List.range (i + 1)).map key) = addK (ddk ((List.range i).map key)) (key i) := by
      unfold ddk
      rw [List.range_succ, List.map_append, List.foldl_append]
      rfl
    have hle : (ddk ((List.range i).map key)).length ≤ i := by
      have := ddk_le ((List.range i).map key)
      simpa using this
    refine addS (s := { s' with toks := s'.toks + 1 }) hS' (by omega) fun bb h' hsb hS2 => ?_
    rw [← estep] at hS2
    refine wpAny_pure ⟨plainId_quiet F.plain_set_update_loop _, ih (i + 1) _ (by omega) hlt (W.frame _ s' _ _ hst' (by simp) fun b hb o e => ?_) hS2 fun s'' hm'' hS'' => ?_⟩
    · rw [hsb.2 b (fun h : b = S => hSf (by rw [← h]; exact hb))]; exact e
    · refine hR s'' (Moved.trans W.gtrans ((hm.mono hsub).then_heap (by simp) fun b o hb e => ?_) hm'') hS''
      rw [hsb.2 b (fun h : b = S => hb (by rw [h]; exact List.mem_cons_self))]; exact e
end
section
variable {prog : Program} {w : World} {A : Around} {E : Value → Shared → Prop} {s : Shared}
theorem esetS_ok {h : Heap} {S : Addr} (e : h.get? S = some (eset (!byT w))) : SetS prog w h S [] :=
  ⟨_, #[], 0, _, e, ⟨rfl, rfl, rfl⟩, rfl, rfl, by simp, rfl, fun z => absurd rfl z, fun e he => by simp at he, fun e he => by simp at he, .refl _⟩
theorem new_led (a : Value) {Q₁ : Value → Shared → Prop} (h : Q₁ (.ref s.heap.objs.size) { s with heap := s.heap.push (eset (!byT w)) }) : codeAny (model prog w) A (.call (.builtin "set.__new__") ⟨[.type "set", a], []⟩) (wants Q₁ E) s := by
  refine codeAny_of_tree ?_; show wpAny _ A.in1 (do checkBuiltinCall "set.__new__" ⟨[.type "set", a], []⟩; again (.builtin "set.__new__" ⟨[.type "set", a], []⟩)) _ _ s
  refine wpAny_bind (wpAny_of_eq (F.newCall_set_1 a) (wpAny_pure ⟨plainId_quiet F.plain_set_new _, codeAny_builtin F.entry_set_new ?_⟩)); rw [Around.under_plainId F.plain_set_new _]
  unfold Builtin.«set.__new__» Builtin.Frozenset.newClass; have hsub := sub_set_self; obtain ⟨hp, g, d, tk, os⟩ := s
  dsimp only; wp_walk; refine wpAny_askSetting (wpAny_pure ?_)
  dsimp only; simp only [newObj]; exact wpAny_bind (wpAny_alloc (wpAny_pure (wpAny_pure h)))
set_option maxHeartbeats 3200000 in
theorem fill_L2 {l : Addr} {items : Array Value} {key : Nat → Str} {R : Result → Shared → Prop} (hh : A.handled = none) (hl : s.heap.IsList l items)
    (hk : ∀ (i : Nat) (v : Value), items[i]? = some v → ∃ tk, v = Value.str (key i) tk) (hn : items.size ≤ 59)
    (hR : ∀ (h' : Heap) (tk : Nat), SetS prog w h' s.heap.objs.size (ddk ((List.range items.size).map key)) → (∀ b o, b < s.heap.objs.size → s.heap.get? b = some o → h'.get? b = some o) → R (.ok (.ret .none)) { s with heap := h', toks := tk }) :
    codeAny (model prog w) A (.call (.builtin "set.__init__") ⟨[.ref s.heap.objs.size, .ref l], []⟩) R { s with heap := s.heap.push (eset (!byT w)) } := by
  have hS : (s.heap.push (eset (!byT w))).get? s.heap.objs.size = some (eset (!byT w)) := Heap.get?_push_size _ rfl
  have hT : Shared.TypeIs { s with heap := s.heap.push (eset (!byT w)) } (.ref s.heap.objs.size) "set" := ⟨_, hS, rfl⟩
  refine codeAny_call_builtin F.called_set.init.plain F.entry_set_init (check_set_init_1 hT ?_)
  obtain ⟨ol, hol, hcl, nl, hdl⟩ := hl
  obtain ⟨ocls, odict, odata, oslots⟩ := ol
  simp only at hcl hdl
  subst hcl; subst hdl
  have hol' : (s.heap.push (eset (!byT w))).get? l = some { cls := .type "list", dict := odict, data := .seq items nl, slots := oslots } := Heap.get?_push_of_some _ hol
  have s1 := F.sub_list_set
  have s2 := F.sub_list_frozenset
  have s3 : (Value.type "list" == Value.type "dict") = false := by decide
  have hl1 : (s.heap.push (eset (!byT w))).IsList l items := ⟨_, hol', rfl, nl, rfl⟩
  unfold Builtin.«set.__init__» noKeywords Builtin.Frozenset.updateFrom
  generalize hPI : pyIter = PI
  wp_walk
  subst hPI
  refine wpAny_pyIter_list hl1 (wpAny_bind (wpAny_runValue ?_))
  have hlS : l < s.heap.objs.size := Heap.lt_size hol
  have hneI : l ≠ (s.heap.push (eset (!byT w))).objs.size := by rw [Heap.size_push]; exact Nat.ne_of_lt (Nat.lt_succ_of_lt hlS)
  have hSf : s.heap.objs.size ∉ [(s.heap.push (eset (!byT w))).objs.size, l] := by
    rw [Heap.size_push]
    simp only [List.mem_cons, List.not_mem_nil, or_false, not_or]
    exact ⟨Nat.ne_of_lt (Nat.lt_succ_self _), Nat.ne_of_gt hlS⟩
  refine loopV ((Walks.list (by simp [hh]) _ l hneI items).toS) s.heap.objs.size hSf key hk hn (items.size - 0) 0 _ (by omega) (Nat.zero_le _) ⟨⟨_, Heap.get?_push_size _ rfl, rfl, rfl⟩, (hl1.push _)⟩ ?_ ?_
  · exact esetS_ok (Heap.get?_push_of_some _ hS)
  · intro s' hm hS'
    obtain ⟨h', g', d', tk', os'⟩ := s'
    have eg : g' = s.gens := hm.gens
    have ed : d' = s.drawn := hm.drawn
    have eo : os' = s.os := hm.os
    subst eg; subst ed; subst eo
    show wpAny _ _ _ _ _ _
    refine wpAny_pure ?_
    show wpAny _ _ (ret Value.none) _ _ _
    refine wpAny_pure (hR h' tk' hS' fun b o hb e => ?_)
    have hb1 : b ≠ s.heap.objs.size := Nat.ne_of_lt hb
    have hb2 : b ≠ (s.heap.push (eset (!byT w))).objs.size := by rw [Heap.size_push]; exact Nat.ne_of_lt (Nat.lt_succ_of_lt hb)
    exact hm.heap b o (by simp only [List.mem_cons, List.not_mem_nil, or_false, not_or]; exact ⟨hb1, hb2⟩) (Heap.get?_push_of_some _ (Heap.get?_push_of_some _ e))
set_option maxHeartbeats 3200000 in
theorem call_set_L2 {l : Addr} {items : Array Value} {key : Nat → Str} {Q : Value → Shared → Prop} (hh : A.handled = none) (hl : s.heap.IsList l items)
    (hk : ∀ (i : Nat) (v : Value), items[i]? = some v → ∃ tk, v = Value.str (key i) tk) (hn : items.size ≤ 59)
    (h : ∀ (h' : Heap) (tk : Nat), SetS prog w h' s.heap.objs.size (ddk ((List.range items.size).map key)) → (∀ b o, b < s.heap.objs.size → s.heap.get? b = some o → h'.get? b = some o) → Q (.ref s.heap.objs.size) { s with heap := h', toks := tk }) :
    wpAny (model prog w) A (call (.type "set") [.ref l]) Q E s := by
  obtain ⟨c, tl, hmro⟩ := F.called_set.mro
  have hmade := F.called_set.made
  have hsub := F.called_set.sub
  refine wpAny_call (codeAny_of_tree ?_)
  show wpAny _ _ (callAny (.type "set") _) _ _ _
  refine wpAny_pure ⟨Code.quiet_builtin _ (by decide +kernel), codeAny_builtin F.entry_type_call ?_⟩
  rw [Around.under_plain (weight_type_call_type "set" [.ref l] []) rfl]
  have h1 := F.called_set.notType
  have h2 := F.called_set.canCreate
  have hct := F.typeCall_set_1 (.ref l)
  repeat (any_goals (first | assumption | wp_step))
  refine codeAny_mono (new_led (.ref l) (E := E) (Q₁ := fun obj s₁ => obj = .ref s.heap.objs.size ∧ s₁ = { s with heap := s.heap.push (eset (!byT w)) }) ⟨rfl, rfl⟩) fun r s₁ hr => ?_
  cases r with
  | error e => exact hr
  | ok fl =>
    cases fl with
    | ret obj =>
      obtain ⟨rfl, rfl⟩ := hr
      have hT : Shared.TypeIs { s with heap := s.heap.push (eset (!byT w)) } (.ref s.heap.objs.size) "set" := ⟨_, Heap.get?_push_size _ rfl, rfl⟩
      have hli := F.called_set.init.lookup
      have hbi := F.called_set.init.bind (.ref s.heap.objs.size)
      repeat (any_goals (first | assumption | wp_step))
      refine codeAny_mono (fill_L2 (R := wants (fun r s₂ => r = .none ∧ ∃ h' tk, s₂ = { s with heap := h', toks := tk } ∧ SetS prog w h' s.heap.objs.size (ddk ((List.range items.size).map key)) ∧
          (∀ b o, b < s.heap.objs.size → s.heap.get? b = some o → h'.get? b = some o)) E) (by simp [hh]) hl hk hn fun h' tk q1 q2 => ⟨rfl, h', tk, rfl, q1, q2⟩) fun r₂ s₂ hr₂ => ?_
      cases r₂ with
      | error e => exact hr₂
      | ok fl₂ =>
        cases fl₂ with
        | ret r =>
          obtain ⟨rfl, h', tk, rfl, hS', hk'⟩ := hr₂
          repeat (any_goals (first | assumption | wp_step))
          exact h _ _ hS' hk'
        | _ => exact hr₂.elim
    | _ => exact hr.elim
set_option maxHeartbeats 3200000 in
theorem fill_T2 {l : Addr} {items : Array Value} {key : Nat → Str} {R : Result → Shared → Prop} (hh : A.handled = none) (hl : s.heap.IsTuple l items)
    (hk : ∀ (i : Nat) (v : Value), items[i]? = some v → ∃ tk, v = Value.str (key i) tk) (hn : items.size ≤ 59)
    (hR : ∀ (h' : Heap) (tk : Nat), SetS prog w h' s.heap.objs.size (ddk ((List.range items.size).map key)) → (∀ b o, b < s.heap.objs.size → s.heap.get? b = some o → h'.get? b = some o) → R (.ok (.ret .none)) { s with heap := h', toks := tk }) :
    codeAny (model prog w) A (.call (.builtin "set.__init__") ⟨[.ref s.heap.objs.size, .ref l], []⟩) R { s with heap := s.heap.push (eset (!byT w)) } := by
  have hS : (s.heap.push (eset (!byT w))).get? s.heap.objs.size = some (eset (!byT w)) := Heap.get?_push_size _ rfl
  have hT : Shared.TypeIs { s with heap := s.heap.push (eset (!byT w)) } (.ref s.heap.objs.size) "set" := ⟨_, hS, rfl⟩
  refine codeAny_call_builtin F.called_set.init.plain F.entry_set_init (check_set_init_1 hT ?_)
  obtain ⟨ol, hol, hcl, nl, hdl⟩ := hl
  obtain ⟨ocls, odict, odata, oslots⟩ := ol
  simp only at hcl hdl
  subst hcl; subst hdl
  have hol' : (s.heap.push (eset (!byT w))).get? l = some { cls := .type "tuple", dict := odict, data := .seq items nl, slots := oslots } := Heap.get?_push_of_some _ hol
  have s1 := F.sub_tuple_set
  have s2 := F.sub_tuple_frozenset
  have s3 : (Value.type "tuple" == Value.type "dict") = false := by decide
  have hl1 : (s.heap.push (eset (!byT w))).IsTuple l items := ⟨_, hol', rfl, nl, rfl⟩
  unfold Builtin.«set.__init__» noKeywords Builtin.Frozenset.updateFrom
  generalize hPI : pyIter = PI
  wp_walk
  subst hPI
  refine wpAny_pyIter_tuple hl1 (wpAny_bind (wpAny_runValue ?_))
  have hlS : l < s.heap.objs.size := Heap.lt_size hol
  have hneI : l ≠ (s.heap.push (eset (!byT w))).objs.size := by rw [Heap.size_push]; exact Nat.ne_of_lt (Nat.lt_succ_of_lt hlS)
  have hSf : s.heap.objs.size ∉ [(s.heap.push (eset (!byT w))).objs.size, l] := by
    rw [Heap.size_push]
    simp only [List.mem_cons, List.not_mem_nil, or_false, not_or]
    exact ⟨Nat.ne_of_lt (Nat.lt_succ_self _), Nat.ne_of_gt hlS⟩
  refine loopV ((Walks.tuple (by simp [hh]) _ l hneI items).toS) s.heap.objs.size hSf key hk hn (items.size - 0) 0 _ (by omega) (Nat.zero_le _) ⟨⟨_, Heap.get?_push_size _ rfl, rfl, rfl⟩, (hl1.push _)⟩ ?_ ?_
  · exact esetS_ok (Heap.get?_push_of_some _ hS)
  · intro s' hm hS'
    obtain ⟨h', g', d', tk', os'⟩ := s'
    have eg : g' = s.gens := hm.gens
    have ed : d' = s.drawn := hm.drawn
    have eo : os' = s.os := hm.os
    subst eg; subst ed; subst eo
    show wpAny _ _ _ _ _ _
    refine wpAny_pure ?_
    show wpAny _ _ (ret Value.none) _ _ _
    refine wpAny_pure (hR h' tk' hS' fun b o hb e => ?_)
    have hb1 : b ≠ s.heap.objs.size := Nat.ne_of_lt hb
    have hb2 : b ≠ (s.heap.push (eset (!byT w))).objs.size := by rw [Heap.size_push]; exact Nat.ne_of_lt (Nat.lt_succ_of_lt hb)
    exact hm.heap b o (by simp only [List.mem_cons, List.not_mem_nil, or_false, not_or]; exact ⟨hb1, hb2⟩) (Heap.get?_push_of_some _ (Heap.get?_push_of_some _ e))
set_option maxHeartbeats 3200000 in
theorem call_set_T2 {l : Addr} {items : Array Value} {key : Nat → Str} {Q : Value → Shared → Prop} (hh : A.handled = none) (hl : s.heap.IsTuple l items)
    (hk : ∀ (i : Nat) (v : Value), items[i]? = some v → ∃ tk, v = Value.str (key i) tk) (hn : items.size ≤ 59)
    (h : ∀ (h' : Heap) (tk : Nat), SetS prog w h' s.heap.objs.size (ddk ((List.range items.size).map key)) → (∀ b o, b < s.heap.objs.size → s.heap.get? b = some o → h'.get? b = some o) → Q (.ref s.heap.objs.size) { s with heap := h', toks := tk }) :
    wpAny (model prog w) A (call (.type "set") [.ref l]) Q E s := by
  obtain ⟨c, tl, hmro⟩ := F.called_set.mro
  have hmade := F.called_set.made
  have hsub := F.called_set.sub
  refine wpAny_call (codeAny_of_tree ?_)
  show wpAny _ _ (callAny (.type "set") _) _ _ _
  refine wpAny_pure ⟨Code.quiet_builtin _ (by decide +kernel), codeAny_builtin F.entry_type_call ?_⟩
  rw [Around.under_plain (weight_type_call_type "set" [.ref l] []) rfl]
  have h1 := F.called_set.notType
  have h2 := F.called_set.canCreate
  have hct := F.typeCall_set_1 (.ref l)
  repeat (any_goals (first | assumption | wp_step))
  refine codeAny_mono (new_led (.ref l) (E := E) (Q₁ := fun obj s₁ => obj = .ref s.heap.objs.size ∧ s₁ = { s with heap := s.heap.push (eset (!byT w)) }) ⟨rfl, rfl⟩) fun r s₁ hr => ?_
  cases r with
  | error e => exact hr
  | ok fl =>
    cases fl with
    | ret obj =>
      obtain ⟨rfl, rfl⟩ := hr
      have hT : Shared.TypeIs { s with heap := s.heap.push (eset (!byT w)) } (.ref s.heap.objs.size) "set" := ⟨_, Heap.get?_push_size _ rfl, rfl⟩
      have hli := F.called_set.init.lookup
      have hbi := F.called_set.init.bind (.ref s.heap.objs.size)
      repeat (any_goals (first | assumption | wp_step))
      refine codeAny_mono (fill_T2 (R := wants (fun r s₂ => r = .none ∧ ∃ h' tk, s₂ = { s with heap := h', toks := tk } ∧ SetS prog w h' s.heap.objs.size (ddk ((List.range items.size).map key)) ∧
          (∀ b o, b < s.heap.objs.size → s.heap.get? b = some o → h'.get? b = some o)) E) (by simp [hh]) hl hk hn fun h' tk q1 q2 => ⟨rfl, h', tk, rfl, q1, q2⟩) fun r₂ s₂ hr₂ => ?_
      cases r₂ with
      | error e => exact hr₂
      | ok fl₂ =>
        cases fl₂ with
        | ret r =>
          obtain ⟨rfl, h', tk, rfl, hS', hk'⟩ := hr₂
          repeat (any_goals (first | assumption | wp_step))
          exact h _ _ hS' hk'
        | _ => exact hr₂.elim
    | _ => exact hr.elim
end
end ST
namespace ST
open PySem PySem.SetTable PyProof.Rows
theorem sl_sin : Slot "set_iterator" "__next__" "set_iterator.__next__" :=
  .of (n := "__next__") (owner := "set_iterator") (by rw [typeLookup_type, builtinLookup_eq_fast]; kernel_rfl) (by decide +kernel) (by decide +kernel) (by decide +kernel) (by first | exact .inl (by decide +kernel) | exact .inr (by decide +kernel)) (by rw [isSubtype_type]; kernel_rfl)
theorem en_sin : entryFor table "set_iterator.__next__" = some Builtin.«set_iterator.__next__» := entryFor_of_tree (by kernel_rfl)
theorem ar_sin (a : Value) : argsOk "set_iterator.__next__" ⟨[a], []⟩ := by unfold argsOk; kernel_rfl
theorem en_si : entryFor table "set.__iter__" = some Builtin.«frozenset.__iter__» :=
  entryFor_alias (id' := "frozenset.__iter__") (by kernel_rfl) rfl (by decide +kernel) (by kernel_rfl)
theorem erase_perm {α : Type} : ∀ (l : List α) (i : Nat) (h : i < l.length), (l[i] :: l.eraseIdx i).Perm l
  | x :: l, 0, _ => .refl _
  | x :: l, i + 1, h => by
    have ih := erase_perm l i (by simpa using h)
    exact (List.Perm.swap ..).trans (ih.cons x)
theorem pick_perm {α : Type} (next : Nat → Nat) : ∀ (n k : Nat) (left : List α) (out : Array α), left.length = n → (pickOrder.go next n k left out).toList.Perm (out.toList ++ left)
  | 0, k, left, out, h => by
    have : left = [] := List.length_eq_zero_iff.mp h
    subst this
    unfold pickOrder.go
    simp
  | n + 1, k, left, out, h => by
    unfold pickOrder.go
    have hlt : next k % left.length < left.length := Nat.mod_lt _ (by omega)
    rw [List.getElem?_eq_getElem hlt]
    dsimp only
    refine (pick_perm next n (k + 1) _ _ (by rw [List.length_eraseIdx_of_lt hlt]; omega)).trans ?_
    rw [Array.toList_push, List.append_assoc]
    exact List.Perm.append_left _ (erase_perm _ _ hlt)
section
variable {prog : Program} {w : World} {A : Around} {E : Value → Shared → Prop}
theorem choose_ok {src : Source} {n : Nat} {s : Shared} {Q : Nat → Shared → Prop} (hn : n ≠ 0) (h : ∀ i d, i < n → Q i { s with drawn := d }) : wpAny (model prog w) A (choose src n) Q E s := fun _ _ _ => ⟨hn, h _ _ (Nat.mod_lt _ (Nat.pos_of_ne_zero hn))⟩
theorem draw_ok {α : Type} : ∀ (n : Nat) (xs : List α) (s : Shared) (Q : List α → Shared → Prop), xs.length = n → (∀ ys d, ys.Perm xs → Q ys { s with drawn := d }) → wpAny (model prog w) A (drawOrder n xs) Q E s
  | 0, xs, s, Q, hl, h => by
    have : xs = [] := List.length_eq_zero_iff.mp hl
    subst this
    unfold drawOrder
    have e : s = { s with drawn := s.drawn } := by cases s; rfl
    refine wpAny_pure ?_
    rw [e]
    exact h [] s.drawn (.refl _)
  | n + 1, [], s, Q, hl, h => by simp at hl
  | n + 1, x :: xs, s, Q, hl, h => by
    unfold drawOrder
    refine wpAny_bind (choose_ok (by simp) fun i d hi => ?_)
    rw [List.getElem?_eq_getElem hi]
    dsimp only
    refine wpAny_bind (draw_ok n ((x :: xs).eraseIdx i) _ _ (by rw [List.length_eraseIdx_of_lt hi]; simp at hl ⊢; omega) fun ys d2 hp => ?_)
    refine wpAny_pure (h _ d2 ?_)
    exact (hp.cons _).trans (erase_perm _ _ hi)
variable {s : Shared}
structure Rd (w : World) (h : Heap) (S : Addr) (es : Array (Int × Value)) (ep : Nat) (t : SetTable) : Prop where
  o : ∃ o, h.get? S = some o ∧ o.ExactSet ∧ o.data = .set es ep t
  f : t.fits es.size = true
  l : t.led = (!byT w)
  p : es.size ≠ 0 → t.plain = false
theorem Rd.moved {h h' : Heap} {S : Addr} {es : Array (Int × Value)} {ep : Nat} {t : SetTable} (r : Rd w h S es ep t) (k : ∀ o, h.get? S = some o → h'.get? S = some o) : Rd w h' S es ep t := by
  obtain ⟨⟨o, ho, hr⟩, h1, h2, h3⟩ := r
  exact ⟨⟨o, k _ ho, hr⟩, h1, h2, h3⟩
abbrev sIt (first : Value) (i : Nat) (S : Addr) (n ep : Nat) : Obj := { cls := .type "set_iterator", dict := none, data := .fields #[first, rawInt i, .ref S, rawInt n, rawInt ep], slots := #[] }
theorem sit_succ (f : Value) (i : Nat) (S : Addr) (n ep : Nat) : sIt f (i + 1) S n ep = { cls := .type "set_iterator", dict := none, data := .fields #[f, .int ((i : Int) + 1) 0, .ref S, .int n 0, .int ep 0], slots := #[] } := by simp [rawInt]
theorem next_int {I S : Addr} {es : Array (Int × Value)} {ep i slot : Nat} {t : SetTable} {Q : Option Value → Shared → Prop} (r : Rd w s.heap S es ep t) (hI : s.heap.get? I = some (sIt (rawInt slot) i S es.size ep))
    {x : Value} {nx : Nat} (hN : ∀ (R : Option (Value × Nat) → Shared → Prop) (E' : Value → Shared → Prop), R (some (x, nx)) s → wpAny (model prog w) A.in1 (setNext S slot i ep) R E' s)
    (hQ : ∀ h', h'.get? I = some (sIt (rawInt nx) (i + 1) S es.size ep) → Heap.SameBut I s.heap h' → Q (some x) { s with heap := h' }) : wpAny (model prog w) A (pyNext (.ref I)) Q E s := by
  have ty : s.TypeIs (.ref I) "set_iterator" := ⟨_, hI, rfl⟩
  obtain ⟨o, ho, hex, hd⟩ := r.o
  unfold pyNext
  refine wpAny_bind (wpAny_attempt (wpAny_callSpecial?_slot (name := Str.ofString "__next__") ty sl_sin (wpAny_call_entry sl_sin ty en_sin ?_ (ar_sin _))))
  unfold Builtin.«set_iterator.__next__»
  refine wpAny_bind (m := slotArgs _ _ _) (wpAny_of_eq (a := (Value.ref I, [])) (by rfl) ?_)
  refine wpAny_bind (wpAny_fieldsOf hI rfl ?_)
  dsimp only [rawInt, Array.toList]
  refine wpAny_bind (wpAny_setEntries_of ho hd r.f ?_)
  rw [if_neg (by simp)]
  refine wpAny_bind (m := pure _) (wpAny_pure ?_)
  dsimp only
  refine wpAny_bind (hN _ _ ?_)
  dsimp only
  refine wpAny_bind (wpAny_setField_rec hI (by simp) fun h1 g1 b1 => ?_)
  refine wpAny_bind (wpAny_setField_rec g1 (by simp) fun h2 g2 b2 => ?_)
  exact wpAny_pure ⟨x, rfl, wpAny_pure (hQ _ (by rw [sit_succ]; simpa [rawInt] using g2) (b1.trans b2))⟩
theorem next_int_end {I S : Addr} {es : Array (Int × Value)} {ep i slot : Nat} {t : SetTable} {Q : Option Value → Shared → Prop} (hh : A.handled = none) (r : Rd w s.heap S es ep t) (hI : s.heap.get? I = some (sIt (rawInt slot) i S es.size ep))
    (hN : ∀ (R : Option (Value × Nat) → Shared → Prop) (E' : Value → Shared → Prop), R none s → wpAny (model prog w) A.in1 (setNext S slot i ep) R E' s)
    (hQ : ∀ h', Heap.ExtBut I s.heap h' → Q none { s with heap := h' }) : wpAny (model prog w) A (pyNext (.ref I)) Q E s := by
  have ty : s.TypeIs (.ref I) "set_iterator" := ⟨_, hI, rfl⟩
  obtain ⟨o, ho, hex, hd⟩ := r.o
  unfold pyNext
  refine wpAny_bind (wpAny_attempt (wpAny_callSpecial?_slot (name := Str.ofString "__next__") ty sl_sin (wpAny_call_entry sl_sin ty en_sin ?_ (ar_sin _))))
  unfold Builtin.«set_iterator.__next__»
  refine wpAny_bind (m := slotArgs _ _ _) (wpAny_of_eq (a := (Value.ref I, [])) (by rfl) ?_)
  refine wpAny_bind (wpAny_fieldsOf hI rfl ?_)
  dsimp only [rawInt, Array.toList]
  refine wpAny_bind (wpAny_setEntries_of ho hd r.f ?_)
  rw [if_neg (by simp)]
  refine wpAny_bind (m := pure _) (wpAny_pure ?_)
  dsimp only
  refine wpAny_bind (hN _ _ ?_)
  dsimp only
  refine wpAny_bind (wpAny_setField_rec hI (by simp) fun h1 g1 b1 => ?_)
  refine wpAny_bind ?_
  simp only [newExc, newTuple]
  refine wpAny_bind (wpAny_newObj_type ?_ (by size_fits))
  refine wpAny_bind (m := firstArgMember _ _) (wpAny_of_eq (a := Value.none) (by first | rfl | (simp only [firstArgMember]; rfl)) ?_)
  refine wpAny_newObj_type ?_ (by size_fits)
  simp only [raiseNew]
  refine wpAny_bind (wpAny_handled ?_)
  rw [show A.in1.handled = none from hh]
  refine wpAny_bind (wpAny_pure (wpAny_throw ?_))
  refine wpAny_bind (wpAny_isInstance (T := "StopIteration") (b := true) ⟨_, Heap.get?_push_size _ rfl, rfl⟩ isSubtype_stop ?_)
  exact wpAny_pure (hQ _ ((b1.extBut.push _).push _))
theorem next_tup {I S T : Addr} {es : Array (Int × Value)} {ep i : Nat} {t : SetTable} {pl : Array Value} {Q : Option Value → Shared → Prop} (r : Rd w s.heap S es ep t) (hI : s.heap.get? I = some (sIt (.ref T) i S es.size ep)) (hT : s.heap.IsTuple T pl)
    {k : Nat} {h0 : Int} {x : Value} (hp : pl[i]? = some (rawInt k)) (hk : es[k]? = some (h0, x))
    (hQ : ∀ h', h'.get? I = some (sIt (.ref T) (i + 1) S es.size ep) → Heap.SameBut I s.heap h' → Q (some x) { s with heap := h' }) : wpAny (model prog w) A (pyNext (.ref I)) Q E s := by
  have ty : s.TypeIs (.ref I) "set_iterator" := ⟨_, hI, rfl⟩
  obtain ⟨o, ho, hex, hd⟩ := r.o
  obtain ⟨oT, hoT, _, nT, hdT⟩ := hT
  unfold pyNext
  refine wpAny_bind (wpAny_attempt (wpAny_callSpecial?_slot (name := Str.ofString "__next__") ty sl_sin (wpAny_call_entry sl_sin ty en_sin ?_ (ar_sin _))))
  unfold Builtin.«set_iterator.__next__»
  refine wpAny_bind (m := slotArgs _ _ _) (wpAny_of_eq (a := (Value.ref I, [])) (by rfl) ?_)
  refine wpAny_bind (wpAny_fieldsOf hI rfl ?_)
  dsimp only [rawInt, Array.toList]
  refine wpAny_bind (wpAny_setEntries_of ho hd r.f ?_)
  rw [if_neg (by simp)]
  refine wpAny_bind (m := pure _) (wpAny_pure ?_)
  dsimp only
  refine wpAny_bind (wpAny_seqItems hoT hdT ?_)
  dsimp only
  rw [Int.toNat_natCast, hp]
  dsimp only [rawInt]
  refine wpAny_bind ?_
  unfold setNextDrawn
  refine wpAny_bind (wpAny_setState_of ho hd r.f ?_)
  dsimp only
  rw [if_neg (by simp)]
  refine wpAny_bind (m := pure _) (wpAny_pure ?_)
  rw [Int.toNat_natCast, hk]
  dsimp only
  refine wpAny_pure ?_
  refine wpAny_bind (wpAny_setField_rec hI (by simp) fun h1 g1 b1 => ?_)
  exact wpAny_pure ⟨x, rfl, wpAny_pure (hQ _ (by rw [sit_succ]; simpa [rawInt] using g1) b1)⟩
theorem next_tup_end {I S T : Addr} {es : Array (Int × Value)} {ep i : Nat} {t : SetTable} {pl : Array Value} {Q : Option Value → Shared → Prop} (hh : A.handled = none) (r : Rd w s.heap S es ep t) (hI : s.heap.get? I = some (sIt (.ref T) i S es.size ep)) (hT : s.heap.IsTuple T pl)
    (hp : pl[i]? = none) (hQ : ∀ h', Heap.ExtBut I s.heap h' → Q none { s with heap := h' }) : wpAny (model prog w) A (pyNext (.ref I)) Q E s := by
  have ty : s.TypeIs (.ref I) "set_iterator" := ⟨_, hI, rfl⟩
  obtain ⟨o, ho, hex, hd⟩ := r.o
  obtain ⟨oT, hoT, _, nT, hdT⟩ := hT
  unfold pyNext
  refine wpAny_bind (wpAny_attempt (wpAny_callSpecial?_slot (name := Str.ofString "__next__") ty sl_sin (wpAny_call_entry sl_sin ty en_sin ?_ (ar_sin _))))
  unfold Builtin.«set_iterator.__next__»
  refine wpAny_bind (m := slotArgs _ _ _) (wpAny_of_eq (a := (Value.ref I, [])) (by rfl) ?_)
  refine wpAny_bind (wpAny_fieldsOf hI rfl ?_)
  dsimp only [rawInt, Array.toList]
  refine wpAny_bind (wpAny_setEntries_of ho hd r.f ?_)
  rw [if_neg (by simp)]
  refine wpAny_bind (m := pure _) (wpAny_pure ?_)
  dsimp only
  refine wpAny_bind (wpAny_seqItems hoT hdT ?_)
  dsimp only
  rw [Int.toNat_natCast, hp]
  dsimp only
  refine wpAny_bind (wpAny_setField_rec hI (by simp) fun h1 g1 b1 => ?_)
  refine wpAny_bind (wpAny_setField_rec g1 (by simp) fun h2 g2 b2 => ?_)
  refine wpAny_bind ?_
  simp only [newExc, newTuple]
  refine wpAny_bind (wpAny_newObj_type ?_ (by size_fits))
  refine wpAny_bind (m := firstArgMember _ _) (wpAny_of_eq (a := Value.none) (by first | rfl | (simp only [firstArgMember]; rfl)) ?_)
  refine wpAny_newObj_type ?_ (by size_fits)
  simp only [raiseNew]
  refine wpAny_bind (wpAny_handled ?_)
  rw [show A.in1.handled = none from hh]
  refine wpAny_bind (wpAny_pure (wpAny_throw ?_))
  refine wpAny_bind (wpAny_isInstance (T := "StopIteration") (b := true) ⟨_, Heap.get?_push_size _ rfl, rfl⟩ isSubtype_stop ?_)
  exact wpAny_pure (hQ _ (((b1.trans b2).extBut.push _).push _))
theorem sn_byT {S : Addr} {es : Array (Int × Value)} {ep i slot : Nat} {t : SetTable} {R : Option (Value × Nat) → Shared → Prop} (r : Rd w s.heap S es ep t) (hb : byT w = true)
    (hR : R (((pickOrder (w.params.setOrder S ep) es)[i]?).map fun e => (e.2, slot)) s) : wpAny (model prog w) A (setNext S slot i ep) R E s := by
  obtain ⟨o, ho, hex, hd⟩ := r.o
  unfold setNext setsByText setWalk setsByText
  refine wpAny_bind (wpAny_setState_of ho hd r.f ?_)
  dsimp only
  refine wpAny_bind (wpAny_bind (wpAny_askSetting (wpAny_pure ?_)))
  dsimp only
  rw [if_pos (show (model prog w).w.params.followText "set-order" = true from hb), if_neg (by simp)]
  refine wpAny_bind (wpAny_bind (wpAny_setState_of ho hd r.f ?_))
  dsimp only
  refine wpAny_bind (wpAny_bind (wpAny_askSetting (wpAny_pure ?_)))
  dsimp only
  rw [if_pos (show (model prog w).w.params.followText "set-order" = true from hb)]
  refine wpAny_bind (wpAny_askSetting (wpAny_pure ?_))
  exact wpAny_pure hR
theorem sn_one {S : Addr} {es : Array (Int × Value)} {ep i slot : Nat} {t : SetTable} {R : Option (Value × Nat) → Shared → Prop} (r : Rd w s.heap S es ep t) (hb : byT w = false) (hn : es.size ≤ 1)
    (hR : R (match es[SetTable.below t.place slot]?, t.place[SetTable.below t.place slot]? with | some (_, x), some j => some (x, j + 1) | _, _ => none) s) : wpAny (model prog w) A (setNext S slot i ep) R E s := by
  obtain ⟨o, ho, hex, hd⟩ := r.o
  have hl : t.led = true := by rw [r.l, hb]; rfl
  unfold setNext setsByText
  refine wpAny_bind (wpAny_setState_of ho hd r.f ?_)
  dsimp only
  refine wpAny_bind (wpAny_bind (wpAny_askSetting (wpAny_pure ?_)))
  dsimp only
  rw [if_neg (show ¬ ((model prog w).w.params.followText "set-order" = true) from by rw [show (model prog w).w.params.followText "set-order" = false from hb]; simp)]
  split
  · rename_i hc
    have hc' : (!t.plain && decide (es.size > 1)) = true := hc
    simp at hc'
    omega
  · refine wpAny_bind (wpAny_of_eq (a := ()) ?_ (wpAny_pure hR))
    show (if (!t.led && !es.isEmpty) = true then _ else pure ()) = pure ()
    rw [hl]
    rfl
end
end ST
namespace ST
open PySem PySem.SetTable PyProof.Rows
theorem sl_sii : Slot "set_iterator" "__iter__" "set_iterator.__iter__" :=
  .of (n := "__iter__") (owner := "set_iterator") (by rw [typeLookup_type, builtinLookup_eq_fast]; kernel_rfl) (by decide +kernel) (by decide +kernel) (by decide +kernel) (by first | exact .inl (by decide +kernel) | exact .inr (by decide +kernel)) (by rw [isSubtype_type]; kernel_rfl)
theorem en_sii : entryFor table "set_iterator.__iter__" = some Builtin.«dict_keyiterator.__iter__» :=
  entryFor_alias (id' := "dict_keyiterator.__iter__") (by kernel_rfl) (by first | rfl | decide +kernel | (unfold String.splitOn; simp +decide [String.splitOnAux])) (by decide +kernel) (by kernel_rfl)
theorem ar_sii (a : Value) : argsOk "set_iterator.__iter__" ⟨[a], []⟩ := by unfold argsOk; kernel_rfl
theorem one_el {α : Type} {xs : Array α} (h : xs.size = 1) : ∃ a, xs = #[a] := by
  obtain ⟨l⟩ := xs
  match l, h with
  | [a], _ => exact ⟨a, rfl⟩
section
variable {prog : Program} {w : World} {A : Around} {E : Value → Shared → Prop} {s : Shared}
theorem iter_self {I : Addr} {Q : Value → Shared → Prop} (hT : s.TypeIs (.ref I) "set_iterator") (h : Q (.ref I) s) : wpAny (model prog w) A (pyIter (.ref I)) Q E s := by
  refine wpAny_pyIter_slot hT sl_sii (wpAny_call_entry sl_sii hT en_sii ?_ (ar_sii _))
  show wpAny _ _ (ret (.ref I)) _ _ s
  exact wpAny_pure ⟨_, rfl, "set_iterator", _, hT, sl_sin.lookup, h⟩
theorem walks_int (hh : A.handled = none) (I S : Addr) (hne : S ≠ I) (es : Array (Int × Value)) (ep : Nat) (t : SetTable) (vs : List Value) (sl : Nat → Nat) (hl : vs.length = es.size)
    (hN : ∀ (i : Nat) (v : Value) (s : Shared) (R : Option (Value × Nat) → Shared → Prop) (E' : Value → Shared → Prop), Rd w s.heap S es ep t → vs[i]? = some v → R (some (v, sl (i + 1))) s → wpAny (model prog w) A.in1 (setNext S (sl i) i ep) R E' s)
    (hE : ∀ (s : Shared) (R : Option (Value × Nat) → Shared → Prop) (E' : Value → Shared → Prop), Rd w s.heap S es ep t → R none s → wpAny (model prog w) A.in1 (setNext S (sl vs.length) vs.length ep) R E' s) :
    Walks prog w A I [I, S] [I] vs.length (fun i v => vs[i]? = some v) (fun i h => h.get? I = some (sIt (rawInt (sl i)) i S es.size ep) ∧ Rd w h S es ep t) where
  sub := fun b hb => by simp at hb; simp [hb]
  frame := fun _ _ _ st hk => ⟨hk I (by simp) _ st.1, st.2.moved fun o e => hk S (by simp) o e⟩
  item := fun i s Q E hi st hQ => by
    have hv : vs[i]? = some vs[i] := by simp [hi]
    refine next_int st.2 st.1 (x := vs[i]) (nx := sl (i + 1)) (fun R E' hR => hN i _ s R E' st.2 hv hR) fun h' g b => ?_
    exact hQ _ h' s.toks hv ⟨g, st.2.moved fun o e => b.extBut S o hne e⟩ fun b' o hb e => b.extBut b' o (fun h => hb (by simp [h])) e
  done := fun s Q E st hQ => next_int_end hh st.2 st.1 (fun R E' hR => hE s R E' st.2 hR) fun h' he' => hQ h' s.toks fun b o hb e => he' b o (fun h => hb (by simp [h])) e
  self := fun _ _ _ _ st hQ => iter_self ⟨_, st.1, rfl⟩ hQ
theorem walks_tup (hh : A.handled = none) (I S T : Addr) (hne : S ≠ I) (hT : T ≠ I) (es : Array (Int × Value)) (ep : Nat) (t : SetTable) (ks : List Nat) (vs : List Value) (hl : vs.length = ks.length)
    (hk : ∀ (i : Nat) (k : Nat) (v : Value), ks[i]? = some k → vs[i]? = some v → ∃ h0, es[k]? = some (h0, v)) :
    Walks prog w A I [I, S, T] [I] vs.length (fun i v => vs[i]? = some v) (fun i h => h.get? I = some (sIt (.ref T) i S es.size ep) ∧ Rd w h S es ep t ∧ h.IsTuple T (ks.map fun (i : Nat) => rawInt i).toArray) where
  sub := fun b hb => by simp at hb; simp [hb]
  frame := fun _ _ _ st hk => ⟨hk I (by simp) _ st.1, st.2.1.moved fun o e => hk S (by simp) o e, st.2.2.at fun o e => hk T (by simp) o e⟩
  item := fun i s Q E hi st hQ => by
    have hv : vs[i]? = some vs[i] := by simp [hi]
    have hki : ks[i]? = some (ks[i]'(by omega)) := by simp [show i < ks.length by omega]
    obtain ⟨h0, e0⟩ := hk i _ _ hki hv
    refine next_tup st.2.1 st.1 st.2.2 (x := vs[i]) (k := ks[i]'(by omega)) (h0 := h0) (by simp [show i < ks.length by omega]) e0 fun h' g b => ?_
    exact hQ _ h' s.toks hv ⟨g, st.2.1.moved fun o e => b.extBut S o hne e, st.2.2.extBut b.extBut hT⟩ fun b' o hb e => b.extBut b' o (fun h => hb (by simp [h])) e
  done := fun s Q E st hQ => next_tup_end hh st.2.1 st.1 st.2.2 (by simp [hl]) fun h' he' => hQ h' s.toks fun b o hb e => he' b o (fun h => hb (by simp [h])) e
  self := fun _ _ _ _ st hQ => iter_self ⟨_, st.1, rfl⟩ hQ
structure Wk (prog : Program) (w : World) (S I : Addr) (h : Heap) (h' : Heap) (es : Array (Int × Value)) (vs : List Value) (fp : List Addr) (St : Nat → Heap → Prop) : Prop where
  W : ∀ A : Around, A.handled = none → Walks prog w A I fp [I] vs.length (fun i v => vs[i]? = some v) St
  st : St 0 h'
  pm : vs.Perm (es.toList.map (·.2))
  up : ∀ b o, h.get? b = some o → h'.get? b = some o
  nw : h.objs.size ≤ I
  fp : ∀ b ∈ fp, (b = S ∨ h.objs.size ≤ b) ∧ b < h'.objs.size
theorem iter_set {S : Addr} {es : Array (Int × Value)} {ep : Nat} {t : SetTable} {Q : Value → Shared → Prop} (r : Rd w s.heap S es ep t) (hn60 : es.size ≤ 60)
    (hQ : ∀ (I : Addr) (h' : Heap) (d : Drawn) (vs : List Value) (fp : List Addr) (St : Nat → Heap → Prop), Wk prog w S I s.heap h' es vs fp St → Q (.ref I) { s with heap := h', drawn := d }) : wpAny (model prog w) A (pyIter (.ref S)) Q E s := by
  obtain ⟨o, ho, hex, hd⟩ := id r.o
  have hT : s.TypeIs (.ref S) "set" := ⟨o, ho, hex.1⟩
  have hS : S < s.heap.objs.size := Heap.lt_size ho
  have hsz : t.place.size = es.size := by have := r.f; unfold SetTable.fits at this; simp at this; exact this.1
  refine wpAny_pyIter_slot hT F.slot_set_iter (wpAny_call_entry F.slot_set_iter hT en_si ?_ (F.args_set_iter_1 _))
  unfold Builtin.«frozenset.__iter__»
  refine wpAny_bind (m := Builtin.Frozenset.slot0 _ _) (wpAny_of_eq (a := S) (by rfl) ?_)
  refine wpAny_bind ?_
  unfold Builtin.Frozenset.sizeOf
  refine wpAny_bind (wpAny_setEntries_of ho hd r.f (wpAny_pure ?_))
  refine wpAny_bind ?_
  unfold setDrawn setsByText
  refine wpAny_bind (wpAny_setState_of ho hd r.f ?_)
  dsimp only
  refine wpAny_bind (wpAny_bind (wpAny_askSetting (wpAny_pure (wpAny_pure ?_))))
  dsimp only
  split
  · rename_i hc
    have hc' : (!byT w && (!t.plain && decide (es.size > 1))) = true := hc
    simp at hc'
    refine wpAny_bind (draw_ok _ _ _ _ (by simp) fun ks d hp => ?_)
    have z : ks.length ≤ sizeLine := by
      have h1 := hp.length_eq
      rw [List.length_range] at h1
      have : sizeLine = 16777216 := by decide
      omega
    unfold newTuple
    refine wpAny_bind (wpAny_newObj_type ?_ (by simpa [sizeOk] using z))
    have ho1 : (s.heap.push { cls := .type "tuple", data := .seq (ks.map fun (i : Nat) => rawInt i).toArray }).get? S = some o := Heap.get?_push_of_some _ ho
    refine wpAny_bind ?_
    unfold setEpoch
    refine wpAny_bind (wpAny_setState_of ho1 hd r.f (wpAny_pure ?_))
    refine wpAny_bind (wpAny_newObj_type (wpAny_pure ⟨_, rfl, "set_iterator", _, ⟨_, Heap.get?_push_size _ rfl, rfl⟩, sl_sin.lookup, ?_⟩))
    have hlt : ∀ k ∈ ks, k < es.size := fun k hk => by simpa using hp.mem_iff.mp hk
    refine hQ _ _ d (ks.map fun k => (es.toList.map (·.2)).getD k .none) [(s.heap.push { cls := .type "tuple", data := .seq (ks.map fun (i : Nat) => rawInt i).toArray }).objs.size, S, s.heap.objs.size] _
      ⟨fun A' h' => walks_tup h' _ S s.heap.objs.size (by rw [Heap.size_push]; exact Nat.ne_of_lt (Nat.lt_succ_of_lt hS)) (by rw [Heap.size_push]; exact Nat.ne_of_lt (Nat.lt_succ_self _)) es ep t ks _ (by simp) (fun i k v e1 e2 => ?_), ⟨Heap.get?_push_size _ rfl, r.moved (fun o' e => Heap.get?_push_of_some _ (Heap.get?_push_of_some _ e)), ?_⟩, ?_, fun b o' e => Heap.get?_push_of_some _ (Heap.get?_push_of_some _ e), by rw [Heap.size_push]; exact Nat.le_succ _, ?_⟩
    · have hk := hlt k (List.mem_of_getElem? e1)
      simp [e1] at e2
      refine ⟨es[k].1, ?_⟩
      rw [← e2]
      simp [hk]
    · exact ⟨_, Heap.get?_push_of_some _ (Heap.get?_push_size _ rfl), rfl, 0, rfl⟩
    · have e : (List.range es.size).map (fun k => (es.toList.map (·.2)).getD k .none) = es.toList.map (·.2) := FD.range_getD _ _ _ (by simp)
      exact (hp.map _).trans (by rw [e])
    · intro b hb
      rw [Heap.size_push, Heap.size_push]
      rw [Heap.size_push] at hb
      simp only [List.mem_cons, List.not_mem_nil, or_false] at hb
      rcases hb with hb | hb | hb
      · subst hb
        exact ⟨.inr (Nat.le_succ _), Nat.lt_succ_self _⟩
      · subst hb
        exact ⟨.inl rfl, Nat.lt_succ_of_lt (Nat.lt_succ_of_lt hS)⟩
      · subst hb
        exact ⟨.inr (Nat.le_refl _), Nat.lt_succ_of_lt (Nat.lt_succ_self _)⟩
  · rename_i hc
    have hc' : ¬ ((!byT w && (!t.plain && decide (es.size > 1))) = true) := hc
    refine wpAny_bind (wpAny_pure ?_)
    refine wpAny_bind ?_
    unfold setEpoch
    refine wpAny_bind (wpAny_setState_of ho hd r.f (wpAny_pure ?_))
    refine wpAny_bind (wpAny_newObj_type (wpAny_pure ⟨_, rfl, "set_iterator", _, ⟨_, Heap.get?_push_size _ rfl, rfl⟩, sl_sin.lookup, ?_⟩))
    have fin : ∀ (vs : List Value) (sl : Nat → Nat), sl 0 = 0 → vs.Perm (es.toList.map (·.2)) → (∀ A : Around, A.handled = none → Walks prog w A s.heap.objs.size [s.heap.objs.size, S] [s.heap.objs.size] vs.length (fun i v => vs[i]? = some v) (fun i h => h.get? s.heap.objs.size = some (sIt (rawInt (sl i)) i S es.size ep) ∧ Rd w h S es ep t)) →
        Q (.ref s.heap.objs.size) { s with heap := s.heap.push (sIt (rawInt 0) 0 S es.size ep) } := by
      intro vs sl h0 hp hW
      have e : ({ s with heap := s.heap.push (sIt (rawInt 0) 0 S es.size ep) } : Shared) = { s with heap := s.heap.push (sIt (rawInt 0) 0 S es.size ep), drawn := s.drawn } := rfl
      rw [e]
      refine hQ _ _ s.drawn vs _ _ ⟨hW, ⟨by rw [h0]; exact Heap.get?_push_size _ rfl, r.moved (fun o' e => Heap.get?_push_of_some _ e)⟩, hp, fun b o' e => Heap.get?_push_of_some _ e, Nat.le_refl _, fun b hb => ?_⟩
      rw [Heap.size_push]
      simp only [List.mem_cons, List.not_mem_nil, or_false] at hb
      rcases hb with hb | hb
      · subst hb
        exact ⟨.inr (Nat.le_refl _), Nat.lt_succ_self _⟩
      · subst hb
        exact ⟨.inl rfl, Nat.lt_succ_of_lt hS⟩
    by_cases hb : byT w = true
    · have hpm : (pickOrder (w.params.setOrder S ep) es).toList.Perm es.toList := by
        have := pick_perm (w.params.setOrder S ep) es.size 0 es.toList #[] (by simp)
        simpa [pickOrder] using this
      have hlen : (pickOrder (w.params.setOrder S ep) es).size = es.size := by simpa using hpm.length_eq
      refine fin ((pickOrder (w.params.setOrder S ep) es).toList.map (·.2)) (fun _ => 0) rfl (hpm.map _) fun A' h' => walks_int h' _ S (Nat.ne_of_lt hS) es ep t _ _ (by simp [hlen]) (fun i v s1 R E' r1 e1 hR => sn_byT r1 hb ?_) (fun s1 R E' r1 hR => sn_byT r1 hb ?_)
      · simp at e1
        obtain ⟨a, e1⟩ := e1
        rw [e1]
        exact hR
      · rw [show (pickOrder (w.params.setOrder S ep) es)[(List.map (·.2) (pickOrder (w.params.setOrder S ep) es).toList).length]? = none by simp]
        exact hR
    · have hb' : byT w = false := by simpa using hb
      have hn1 : es.size ≤ 1 := by
        rw [hb'] at hc'
        by_cases z : es.size = 0
        · omega
        · rw [r.p z] at hc'
          simp at hc'
          exact hc'
      refine fin (es.toList.map (·.2)) (fun i => if i = 0 then 0 else t.place.getD 0 0 + 1) rfl (.refl _) fun A' h' => walks_int h' _ S (Nat.ne_of_lt hS) es ep t _ _ (by simp) (fun i v s1 R E' r1 e1 hR => sn_one r1 hb' hn1 ?_) (fun s1 R E' r1 hR => sn_one r1 hb' hn1 ?_)
      · have hi : i = 0 := by
          have := List.getElem?_eq_some_iff.mp e1
          obtain ⟨q, _⟩ := this
          simp at q
          omega
        subst hi
        obtain ⟨a, ea⟩ : ∃ a, es = #[a] := by
          obtain ⟨l⟩ := es
          have := (List.getElem?_eq_some_iff.mp e1).1
          match l, this, hn1 with
          | [a], _, _ => exact ⟨a, rfl⟩
          | _ :: _ :: _, _, h => simp at h
        subst ea
        obtain ⟨j, ej⟩ : ∃ j, t.place = #[j] := one_el hsz
        simp at e1
        subst e1
        rw [ej] at hR ⊢
        simpa [below, below.go] using hR
      · by_cases z : es.size = 0
        · have e0 : es = #[] := Array.eq_empty_of_size_eq_zero z
          subst e0
          simpa using hR
        · obtain ⟨a, ea⟩ := one_el (xs := es) (by omega : es.size = 1)
          subst ea
          obtain ⟨j, ej⟩ : ∃ j, t.place = #[j] := one_el hsz
          rw [ej]
          simpa [below, below.go] using hR
end
end ST
namespace ST
open PySem PySem.SetTable PyProof.Rows
section
variable {prog : Program} {w : World} {A : Around} {E : Value → Shared → Prop} {s : Shared}
set_option maxHeartbeats 1000000 in
theorem collect_set {S : Addr} {es : Array (Int × Value)} {ep : Nat} {t : SetTable} {Q : List Value → Shared → Prop} (hh : A.handled = none) (r : Rd w s.heap S es ep t) (hn60 : es.size ≤ 60)
    (hQ : ∀ (h' : Heap) (d : Drawn) (tk : Nat) (vs : List Value), vs.Perm (es.toList.map (·.2)) → s.heap.objs.size < h'.objs.size → (∀ b o, s.heap.get? b = some o → h'.get? b = some o) → Q vs { s with heap := h', drawn := d, toks := tk }) : wpAny (model prog w) A (collect (.ref S)) Q E s := by
  obtain ⟨o, ho, hex, hd⟩ := id r.o
  have hS : S < s.heap.objs.size := Heap.lt_size ho
  unfold collect
  refine wpAny_bind (wpAny_runValue (codeAny_builtin F.entry_proto_collect ?_))
  rw [Around.under_plainId F.plain_proto_collect _]
  show wpAny _ A.in1 (newList [] >>= fun l => again (.builtin "list.__iadd__" ⟨[l, .ref S], []⟩)) _ _ s
  refine wpAny_bind (wpAny_newObj_type ?_)
  refine wpAny_pure ⟨plainId_quiet F.plain_list_iadd _, codeAny_builtin F.entry_list_iadd ?_⟩
  rw [Around.under_plainId F.plain_list_iadd _]
  show wpAny _ A.in1 (Builtin.List.listExtendWith (.ref s.heap.objs.size) (.ref S) (.ref s.heap.objs.size)) _ _ _
  unfold Builtin.List.listExtendWith
  generalize hH : s.heap.push { cls := .type "list", data := .seq ([] : List Value).toArray } = H
  have hHs : H.objs.size = s.heap.objs.size + 1 := by rw [← hH, Heap.size_push]
  have up0 : ∀ b ob, s.heap.get? b = some ob → H.get? b = some ob := fun b ob e => hH ▸ Heap.get?_push_of_some _ e
  have hL : H.get? s.heap.objs.size = some { cls := .type "list", data := .seq ([] : List Value).toArray } := hH ▸ Heap.get?_push_size _ rfl
  have ty : Shared.TypeIs { s with heap := H } (.ref S) "set" := ⟨o, up0 _ _ ho, hex.1⟩
  refine wpAny_bind (wpAny_typeOf (T := "set") ty ?_)
  have h1 : Builtin.List.listSameRef (.ref s.heap.objs.size) (.ref S) = false := by simp [Builtin.List.listSameRef]; exact (Nat.ne_of_lt hS).symm
  have h2 : (Value.type "set" == Value.type "list") = false := by decide
  have h3 : (Value.type "set" == Value.type "tuple") = false := by decide
  simp only [h1, h2, h3, Bool.or_false, Bool.false_eq_true, if_false]
  refine wpAny_bind (iter_set (s := { s with heap := H }) (r.moved fun o e => up0 _ _ e) hn60 fun I h' d vs fp St K => ?_)
  have ty' : Shared.TypeIs { s with heap := h', drawn := d } (.ref S) "set" := ⟨o, K.up _ _ (up0 _ _ ho), hex.1⟩
  refine wpAny_bind (wpAny_holding ?_)
  unfold Builtin.List.listLengthHint
  refine wpAny_bind (wpAny_specialOf ty' F.slot_set_len.lookup ?_)
  wp_delta
  refine wpAny_bind (wpAny_isInstance (T := "set") (b := true) ty' (by rw [isSubtype_type]; kernel_rfl) ?_)
  show wpAny _ A.in1 (typeOf (Value.ref S) >>= _) _ _ _
  refine wpAny_bind (wpAny_typeOf (T := "set") ty' ?_)
  refine wpAny_pure ?_
  show wpAny _ A.in1 (rule "list.extend.makes-room" >>= fun _ => Builtin.List.listTouch (.ref s.heap.objs.size) >>= fun _ =>
    again (.builtin "list.extend.loop" ⟨[.ref s.heap.objs.size, .ref I, .ref s.heap.objs.size], []⟩)) _ _ _
  refine wpAny_bind (wpAny_rule ?_)
  have hS1 : h'.get? s.heap.objs.size = some { cls := .type "list", data := .seq ([] : List Value).toArray } := K.up _ _ hL
  refine wpAny_bind ?_
  show wpAny _ A.in1 (updateSeq s.heap.objs.size (·.push .none) >>= fun _ => updateSeq s.heap.objs.size (·.pop)) _ _ _
  refine wpAny_bind (wpAny_updateSeq hS1 rfl ?_)
  have hS2 := Heap.get?_update_self (Obj.mapSeq (·.push Value.none)) hS1 rfl
  refine wpAny_updateSeq hS2 rfl ?_
  have hS3 := Heap.get?_update_self (Obj.mapSeq (·.pop)) hS2 rfl
  have oth : ∀ b ob, b ≠ s.heap.objs.size → h'.get? b = some ob → ((h'.update s.heap.objs.size (Obj.mapSeq (·.push Value.none))).update s.heap.objs.size (Obj.mapSeq (·.pop))).get? b = some ob :=
    fun b ob hb e => (Heap.get?_update_other _ _ (Ne.symm hb)).trans ((Heap.get?_update_other _ _ (Ne.symm hb)).trans e)
  have hSf : s.heap.objs.size ∉ fp := fun hm => by
    rcases (K.fp _ hm).1 with e | e
    · exact absurd e (Nat.ne_of_lt hS).symm
    · rw [hHs] at e
      exact absurd e (Nat.not_le.mpr (Nat.lt_succ_self _))
  have W := K.W A.in1 hh
  have hvn : vs.length ≤ sizeLine := by
    have h1 := K.pm.length_eq
    simp at h1
    have : sizeLine = 16777216 := by decide
    omega
  refine wpAny_pure ⟨plainId_quiet F.plain_extend_loop _, codeAny_extend_loopS W.toS hvn _ hSf _ vs.length 0 _ _ _ rfl (Nat.zero_le _)
    (W.frame 0 h' _ K.st fun b hb ob e => oth b ob (fun h => hSf (h ▸ hb)) e) hS3 (ItemsOf.nil _) fun s' acc' c' hm hS' hacc => ?_⟩
  show wpAny _ A (load s.heap.objs.size >>= _) _ _ s'
  refine wpAny_bind (wpAny_load hS' ?_)
  have eacc : acc'.toList = vs := by
    apply List.ext_getElem
    · simpa using hacc.1
    · intro i h1 h2
      have : vs[i]? = some acc'[i] := hacc.2 i acc'[i] (by simp)
      rw [List.getElem?_eq_getElem h2] at this
      simpa using this.symm
  show wpAny _ A (pure acc'.toList) _ _ s'
  rw [eacc]
  obtain ⟨h2', g', d', tk', os'⟩ := s'
  have eg : g' = s.gens := hm.gens
  have ed : d' = d := hm.drawn
  have eo : os' = s.os := hm.os
  subst eg; subst ed; subst eo
  refine wpAny_pure (hQ h2' d' tk' vs K.pm (Heap.lt_size hS') fun b ob e => hm.heap b ob (fun hb => ?_) (oth b ob (Nat.ne_of_lt (Heap.lt_size e)) (K.up _ _ (up0 _ _ e))))
  have hlt := Heap.lt_size e
  rcases List.mem_cons.mp hb with h | h
  · exact absurd hlt (h ▸ Nat.lt_irrefl _)
  · rw [List.mem_singleton.mp h] at hlt
    have := K.nw
    rw [hHs] at this
    exact absurd (Nat.lt_trans hlt this) (Nat.lt_irrefl _)
theorem SetS.rd {h : Heap} {S : Addr} {ks : List Str} (x : SetS prog w h S ks) : ∃ es ep t, Rd w h S es ep t ∧ es.size ≤ 60 ∧ (∀ e ∈ es.toList, ∃ x t, e.2 = .str x t) ∧ (es.toList.map fun e => strOf e.2).Perm ks := by
  obtain ⟨o, es, ep, t, ho, hex, hd, hf, hk, hl, hp, hel, hs, hm⟩ := x
  refine ⟨es, ep, t, ⟨⟨o, ho, hex, hd⟩, hf, hl, hp⟩, ?_, hs, hm⟩
  have := hm.length_eq
  simp at this
  omega
theorem strs_of : ∀ {vs : List Value}, (∀ v ∈ vs, ∃ x t, v = .str x t) → StrsAre vs (vs.map strOf)
  | [], _ => .nil
  | v :: vs, h => by
    obtain ⟨x, t, rfl⟩ := h v List.mem_cons_self
    exact .cons x t (strs_of fun v hv => h v (List.mem_cons_of_mem _ hv))
set_option maxHeartbeats 1000000 in
theorem sorted_set {S : Addr} {ks : List Str} {Q : Value → Shared → Prop} (hh : A.handled = none) (x : SetS prog w s.heap S ks)
    (h : ∀ (l : Addr) (h' : Heap) (d : Drawn) (tk : Nat) (out : List Value) (e : Nat), StrsAre out (FD.isortB FD.leS ks) → h'.get? l = some (seqObj "list" out.toArray e) → s.heap.objs.size ≤ l → (∀ b o, s.heap.get? b = some o → h'.get? b = some o) → Q (.ref l) { s with heap := h', drawn := d, toks := tk }) :
    wpAny (model prog w) A (call (.builtin "sorted") [.ref S]) Q E s := by
  obtain ⟨es, ep, t, r, h60, hs, hm⟩ := x.rd
  refine Calls.call_function_entry kind_sorted plain_sorted entry_sorted (args_sorted1 _) ?_
  unfold Builtin.«sorted»
  refine wpAny_bind (m := checkCount "sorted" 1 1 _) (wpAny_pure ?_)
  refine wpAny_bind (collect_set hh r h60 fun h1 d tk vs hp hgr up => ?_)
  have hvs : ∀ v ∈ vs, ∃ x t, v = Value.str x t := fun v hv => by
    obtain ⟨e, he, rfl⟩ := List.mem_map.mp (hp.mem_iff.mp hv)
    exact hs e he
  have hS := strs_of hvs
  have hlen : vs.length < 64 := by
    have := hp.length_eq
    simp at this
    omega
  have hpk : (vs.map strOf).Perm ks := by
    have := hp.map strOf
    rw [List.map_map] at this
    exact this.trans hm
  refine wpAny_bind (wpAny_newList ?_ (FD.line64 hlen))
  have hoL : (h1.push (seqObj "list" vs.toArray 0)).get? h1.objs.size = some (seqObj "list" vs.toArray 0) := Heap.get?_push_size _ rfl
  refine wpAny_bind (wpAny_holding (wpAny_call_entry slot_list_sort ⟨_, hoL, rfl⟩ entry_list_sort (list_sort_treeK strKind_oneLt hoL hS.keysOf (fun v₁ v₂ rest e => keyKind_strs (by rw [← e]; exact hS)) hlen fun st' hp' hs' => ⟨_, rfl, ?_⟩) (args_list_sort _)))
  obtain ⟨ss', a1, a2, a3⟩ := sorted_out_str hS hp' hs'
  have es' : ss' = FD.isortB FD.leS ks := FD.sorted_uniq FD.ordS ((a2.trans hpk).trans (FD.isortB_perm FD.leS ks).symm) (FD.sortedS_pw _ a3) (FD.isortB_sorted FD.ordS ks)
  subst es'
  obtain ⟨e, he⟩ := sortedHeap_at (out := (arrOf st').map (·.2)) hoL
  refine wpAny_pure ⟨_, rfl, h _ _ d tk _ e a1 (by rw [Array.toArray_toList]; exact he) (Nat.le_of_lt hgr) fun b ob q => ?_⟩
  · have q1 := up _ _ q
    have hlt := Heap.lt_size q1
    rw [sortedHeap_old (Nat.ne_of_lt hlt) (by rw [Heap.size_push]; exact Nat.lt_succ_of_lt hlt), Heap.get?_push_ne _ _ _ (Nat.ne_of_lt hlt)]
    exact q1
end
end ST
namespace FD
open PySem PySem.Spec PyProof.Rows L2
def sortSet : List Dv → Option (Rs Dv)
  | [.lst ds] => match strsOf ds with
    | some ks => if ks.length ≤ 59 then some (.ok (.lst ((isortB leS (ST.ddk ks)).map Dv.str))) else none
    | none => none
  | [.tup ds] => match strsOf ds with
    | some ks => if ks.length ≤ 59 then some (.ok (.lst ((isortB leS (ST.ddk ks)).map Dv.str))) else none
    | none => none
  | _ => none
theorem Inv_drawn {X : Cx} {pins : List (Addr × Obj)} {σ : List (Option V)} {H : Hp} {s : Shared} (I : Inv X pins σ H s) (d : Drawn) : Inv X pins σ H { s with drawn := d } := ⟨I.ok, I.os, I.bare, I.base, I.loc, I.cell, I.free, I.freeC, I.pin, I.hok, I.len⟩
theorem strs_get : ∀ {vs : List Value} {ss : List Str}, StrsAre vs ss → vs.length = ss.length ∧ ∀ (i : Nat) (v : Value), vs[i]? = some v → ∃ tk, v = Value.str (ss.getD i "") tk
  | _, _, .nil => ⟨rfl, fun i v h => by simp at h⟩
  | _, _, .cons x t h => by
    obtain ⟨h1, h2⟩ := strs_get h
    refine ⟨by simp [h1], fun i v e => ?_⟩
    cases i with
    | zero => simp at e; exact ⟨t, by simp [← e]⟩
    | succ i => obtain ⟨tk, q⟩ := h2 i v (by simpa using e); exact ⟨tk, by simpa using q⟩
section
variable {X : Cx} {p p2 pos pos2 : Pos} {e : Expr} {ga : FnA}
theorem fe_sortSet (hc : X.calm = true) (hg : Gl X "sorted") (hm : X.mg "sorted" = none) (hg2 : Gl X "set") (hm2 : X.mg "set" = none) (ha : FA X [e] ga)
    (he : starEach [.Call (.Name "set" p2) [e] [] pos2] X.env = (false, eval (.Call (.Name "set" p2) [e] [] pos2) X.env) :: starEach [] X.env := by kernel_rfl) (hpl : (backTo pos (starEach [] X.env)).any (·.1) = false := by kernel_rfl)
    (he2 : starEach [e] X.env = (false, eval e X.env) :: starEach [] X.env := by kernel_rfl) (hpl2 : (backTo pos2 (starEach [] X.env)).any (·.1) = false := by kernel_rfl) :
    FE X (.Call (.Name "sorted" p) [.Call (.Name "set" p2) [e] [] pos2] [] pos) (fB1 sortSet ga) := ⟨fun pins s σ H Q I ⟨ρ, E, o⟩ => by
  refine wpAny_Call_Name_kw (ld_blt I hg hm (u := .builtin "sorted") (by decide +kernel) ?_ (by decide) (by decide))
  refine PyProof.Rows.callWith_builtin1 ?_ he hpl
  rw [he]
  show wpAny _ _ (spliced ((false, eval (.Call (.Name "set" p2) [e] [] pos2) X.env) :: backTo pos (starEach [] X.env))) _ _ s
  refine Calls.spliced_cons ?_
  refine wpAny_Call_Name_kw (ld_blt I hg2 hm2 (u := .type "set") (by decide +kernel) ?_ (by decide) (by decide))
  refine PyProof.Rows.callWith_type1 (thn (ha.h pos2 pins s σ H _ I ⟨ρ, E, OutA.bind o fun ds vs H1 e1 rs o1 => (show ∃ ds, Reps X.K H1 ds vs ∧ Out X H1 (sortSet ds) Q from ⟨ds, rs, o1⟩)⟩) fun us s1 ⟨vs, H1, I1, r1, ds, rs, o1⟩ => ?_) he2 hpl2
  have fin : ∀ (ks : List Str) (h' : Heap) (tk : Nat), ks.length ≤ 59 → Out X H1 (some (.ok (.lst ((isortB leS (ST.ddk ks)).map Dv.str)))) Q → ST.SetS X.prog X.w h' s1.heap.objs.size (ST.ddk ks) → (∀ b o, b < s1.heap.objs.size → s1.heap.get? b = some o → h'.get? b = some o) → wpAny (model X.prog X.w) X.A (call (.builtin "sorted") [.ref s1.heap.objs.size]) (EP X pins σ Q) X.xe { s1 with heap := h', toks := tk } := by
    intro ks h' tk hk o1 hS hkp
    refine ST.sorted_set (I1.ok.hd hc) hS fun l h2 d tk2 out e0 a1 a2 a3 a4 => ?_
    have hlt : s1.heap.objs.size ≤ l := by
      obtain ⟨_, _, _, _, q, _⟩ := hS
      exact Nat.le_of_lt (Nat.lt_of_lt_of_le (Heap.lt_size q) a3)
    refine ⟨.ref l, _, Inv_drawn (I1.laid (h' := h2) (t' := tk2) (o := .lst ((isortB leS (ST.ddk ks)).map V.str)) (fun b ob q => a4 _ _ (hkp b ob (Heap.lt_size q) q)) hlt ?_) d, rfl, o1 _ _ (same_new (I1.hok.fresh hlt) _) ⟨l, _, rfl, upd_same, reps_strs2 _ _⟩⟩
    exact ⟨line64 (by rw [List.length_map, (isortB_perm leS _).length_eq]; have := ST.ddk_le ks; omega), out, e0, vals_strs2 a1, by simpa [seqObj] using a2⟩
  unfold sortSet at o1
  split at o1
  · rename_i es
    obtain ⟨v, rfl, r⟩ := reps1 rs
    obtain ⟨l, xs, rfl, hl, rx⟩ := r.lstE
    obtain ⟨u, rfl, ru⟩ := vals1 r1
    cases (show u = Value.ref l from ru)
    split at o1
    · rename_i ks hks
      split at o1
      · rename_i hnd
        obtain ⟨z, its, n, rv, hz, eh⟩ := I1.lstM hl
        obtain ⟨q1, q2⟩ := strs_get (strs_are hks rx rv)
        have hsz : its.toArray.size = ks.length := by simp [q1]
        refine ST.call_set_L2 (items := its.toArray) (key := fun i => ks.getD i "") (I1.ok.hd hc) ⟨_, eh, rfl, n, rfl⟩ (fun i v hi => q2 i v (by simpa using hi)) (by rw [hsz]; exact hnd) fun h' tk hS hkp => ?_
        refine Calls.spliced_nil ?_
        rw [range_getD ks "" _ hsz] at hS
        exact fin ks h' tk hnd o1 hS hkp
      · exact o1.elim
    · exact o1.elim
  · rename_i es
    obtain ⟨v, rfl, r⟩ := reps1 rs
    obtain ⟨l, xs, rfl, hl, rx⟩ := r.tupE
    obtain ⟨u, rfl, ru⟩ := vals1 r1
    cases (show u = Value.ref l from ru)
    split at o1
    · rename_i ks hks
      split at o1
      · rename_i hnd
        obtain ⟨its, rv, pl, hz⟩ := I1.tuple (SqT.of hl)
        obtain ⟨q1, q2⟩ := strs_get (strs_are hks rx rv)
        have hsz : its.toArray.size = ks.length := by simp [q1]
        refine ST.call_set_T2 (items := its.toArray) (key := fun i => ks.getD i "") (I1.ok.hd hc) pl (fun i v hi => q2 i v (by simpa using hi)) (by rw [hsz]; exact hnd) fun h' tk hS hkp => ?_
        refine Calls.spliced_nil ?_
        rw [range_getD ks "" _ hsz] at hS
        exact fin ks h' tk hnd o1 hS hkp
      · exact o1.elim
    · exact o1.elim
  · exact o1.elim⟩
end
end FD
namespace FD
open PySem PySem.Spec PyProof.Rows L2
def oEnd (i : Nat) (f : FnS) : FnO2 := fun ρ ds => match f (ρ.set i (some (.lst ds))) with
  | some (.rt d) => some (.rt d)
  | _ => none
theorem fos_end {X : Cx} {i : Nat} {sts : List Stmt} {f : FnS} (h : FSs X sts f) : FOs X i sts (oEnd i f) := ⟨fun pins s σ Hf D I ⟨H, a, xs, ρ, ds, e1, ha', hia, E, r, o⟩ => by
  subst e1
  refine h.h pins s σ _ D I ⟨_, envs_full ha' hia E r, ?_⟩
  unfold oEnd at o
  match hg : f (ρ.set i (some (.lst ds))) with
  | none => rw [hg] at o; exact o.elim
  | some (.exc _) => rw [hg] at o; exact o.elim
  | some (.nx _) => rw [hg] at o; exact o.elim
  | some (.rt d) => rw [hg] at o; exact fun v H2 e2 rd => o v H2 ((same_full ha').trans e2) rd⟩
end FD
namespace FD
open PySem PySem.Spec PyProof.Rows L2
theorem loopF_const {i : Nat} {js : List Nat} {body : FnS} {ρ : Ev} : ∀ {ds : List Dv}, (∀ d ∈ ds, ∃ ρ', body (ρ.set i (some d)) = some (.nx ρ') ∧ fgt js ρ' = ρ) → ∀ ρ0, fgt js ρ0 = ρ → loopF i js body ds ρ0 = some (.nx ρ)
  | [], _, ρ0, e => by unfold loopF; rw [e]
  | d :: ds, h, ρ0, e => by
    obtain ⟨ρ', h1, h2⟩ := h d List.mem_cons_self
    unfold loopF
    rw [e, h1]
    exact loopF_const (fun d' hd => h d' (List.mem_cons_of_mem _ hd)) ρ' h2
theorem all_mem {α : Type} {p : α → Bool} {l : List α} (h : l.all p = true) {x : α} (hx : x ∈ l) : p x = true := List.all_eq_true.mp h x hx
end FD
namespace G
open PySem PySem.Spec PyProof.Rows L2 FD
def top (i : Nat) : Stmt := PySem.Challenge.pw_notejar_k02_tables.main.body.getD i (.Pass ⟨0, 0, 0, 0⟩)
abbrev s__law_cell : Stmt := top 31
theorem sc__law_cell : FnScope ["_law_script", "_law_k"] ["_law_script", "_law_k"] (defScope s__law_cell) := ⟨rfl, rfl, rfl, by decide +kernel, rfl, by decide +kernel, by decide +kernel⟩
theorem bd__law_cell {K : PySem.W.Frag} {f : Addr} {fd : FuncData} (Fn : Fun K "_law_cell" "_law_cell" s__law_cell f fd) : Binds K fd ["_law_script", "_law_k"] [] := Fn.binds fun _ _ _ _ _ _ us hl => match us, hl with | [_, _], _ => rfl
abbrev s__law_drawn : Stmt := top 32
theorem sc__law_drawn : FnScope ["_law_script", "_law_k", "_law_many", "_law_cell_here"] ["_law_script", "_law_k", "_law_many"] (defScope s__law_drawn) := ⟨rfl, rfl, rfl, by decide +kernel, rfl, by decide +kernel, by decide +kernel⟩
theorem bd__law_drawn {K : PySem.W.Frag} {f : Addr} {fd : FuncData} (Fn : Fun K "_law_drawn" "_law_drawn" s__law_drawn f fd) : Binds K fd ["_law_script", "_law_k", "_law_many"] [] := Fn.binds fun _ _ _ _ _ _ us hl => match us, hl with | [_, _, _], _ => rfl
abbrev s_is_text_of : Stmt := top 10
theorem sc_is_text_of : FnScope ["thing", "signs", "least", "most"] ["thing", "signs", "least", "most"] (defScope s_is_text_of) := ⟨rfl, rfl, rfl, by decide +kernel, rfl, by decide +kernel, by decide +kernel⟩
theorem bd_is_text_of {K : PySem.W.Frag} {f : Addr} {fd : FuncData} (Fn : Fun K "is_text_of" "is_text_of" s_is_text_of f fd) : Binds K fd ["thing", "signs", "least", "most"] [] := Fn.binds fun _ _ _ _ _ _ us hl => match us, hl with | [_, _, _, _], _ => rfl
abbrev s_is_label : Stmt := top 17
theorem sc_is_label : FnScope ["thing"] ["thing"] (defScope s_is_label) := ⟨rfl, rfl, rfl, by decide +kernel, rfl, by decide +kernel, by decide +kernel⟩
theorem bd_is_label {K : PySem.W.Frag} {f : Addr} {fd : FuncData} (Fn : Fun K "is_label" "is_label" s_is_label f fd) : Binds K fd ["thing"] [] := Fn.binds fun _ _ _ _ _ _ us hl => match us, hl with | [_], _ => rfl
abbrev s_is_name : Stmt := top 18
theorem sc_is_name : FnScope ["thing", "parts"] ["thing"] (defScope s_is_name) := ⟨rfl, rfl, rfl, by decide +kernel, rfl, by decide +kernel, by decide +kernel⟩
theorem bd_is_name {K : PySem.W.Frag} {f : Addr} {fd : FuncData} (Fn : Fun K "is_name" "is_name" s_is_name f fd) : Binds K fd ["thing"] [] := Fn.binds fun _ _ _ _ _ _ us hl => match us, hl with | [_], _ => rfl
abbrev s__law_is_rule : Stmt := top 45
theorem sc__law_is_rule : FnScope ["_law_thing"] ["_law_thing"] (defScope s__law_is_rule) := ⟨rfl, rfl, rfl, by decide +kernel, rfl, by decide +kernel, by decide +kernel⟩
theorem bd__law_is_rule {K : PySem.W.Frag} {f : Addr} {fd : FuncData} (Fn : Fun K "_law_is_rule" "_law_is_rule" s__law_is_rule f fd) : Binds K fd ["_law_thing"] [] := Fn.binds fun _ _ _ _ _ _ us hl => match us, hl with | [_], _ => rfl
abbrev s__law_is_table : Stmt := top 46
theorem sc__law_is_table : FnScope ["_law_thing"] ["_law_thing"] (defScope s__law_is_table) := ⟨rfl, rfl, rfl, by decide +kernel, rfl, by decide +kernel, by decide +kernel⟩
theorem bd__law_is_table {K : PySem.W.Frag} {f : Addr} {fd : FuncData} (Fn : Fun K "_law_is_table" "_law_is_table" s__law_is_table f fd) : Binds K fd ["_law_thing"] [] := Fn.binds fun _ _ _ _ _ _ us hl => match us, hl with | [_], _ => rfl
abbrev s__law_name : Stmt := top 33
theorem sc__law_name : FnScope ["_law_script", "_law_at", "_law_some"] ["_law_script", "_law_at"] (defScope s__law_name) := ⟨rfl, rfl, rfl, by decide +kernel, rfl, by decide +kernel, by decide +kernel⟩
theorem bd__law_name {K : PySem.W.Frag} {f : Addr} {fd : FuncData} (Fn : Fun K "_law_name" "_law_name" s__law_name f fd) : Binds K fd ["_law_script", "_law_at"] [] := Fn.binds fun _ _ _ _ _ _ us hl => match us, hl with | [_, _], _ => rfl
abbrev s__law_ends : Stmt := top 37
theorem sc__law_ends : FnScope ["_law_name_here", "_law_parts"] ["_law_name_here"] (defScope s__law_ends) := ⟨rfl, rfl, rfl, by decide +kernel, rfl, by decide +kernel, by decide +kernel⟩
theorem bd__law_ends {K : PySem.W.Frag} {f : Addr} {fd : FuncData} (Fn : Fun K "_law_ends" "_law_ends" s__law_ends f fd) : Binds K fd ["_law_name_here"] [] := Fn.binds fun _ _ _ _ _ _ us hl => match us, hl with | [_], _ => rfl
abbrev s__law_open : Stmt := top 38
theorem sc__law_open : FnScope ["_law_table_here", "_law_name_here", "_law_ends_here", "_law_called", "_law_met"] ["_law_table_here", "_law_name_here"] (defScope s__law_open) := ⟨rfl, rfl, rfl, by decide +kernel, rfl, by decide +kernel, by decide +kernel⟩
theorem bd__law_open {K : PySem.W.Frag} {f : Addr} {fd : FuncData} (Fn : Fun K "_law_open" "_law_open" s__law_open f fd) : Binds K fd ["_law_table_here", "_law_name_here"] [] := Fn.binds fun _ _ _ _ _ _ us hl => match us, hl with | [_, _], _ => rfl
abbrev s__law_own : Stmt := top 39
theorem sc__law_own : FnScope ["_law_table_here", "_law_name_here", "_law_ends_here", "_law_longer"] ["_law_table_here", "_law_name_here"] (defScope s__law_own) := ⟨rfl, rfl, rfl, by decide +kernel, rfl, by decide +kernel, by decide +kernel⟩
theorem bd__law_own {K : PySem.W.Frag} {f : Addr} {fd : FuncData} (Fn : Fun K "_law_own" "_law_own" s__law_own f fd) : Binds K fd ["_law_table_here", "_law_name_here"] [] := Fn.binds fun _ _ _ _ _ _ us hl => match us, hl with | [_, _], _ => rfl
abbrev s__law_table : Stmt := top 34
theorem sc__law_table : FnScope ["_law_script", "_law_at", "_law_some"] ["_law_script", "_law_at"] (defScope s__law_table) := ⟨rfl, rfl, rfl, by decide +kernel, rfl, by decide +kernel, by decide +kernel⟩
theorem bd__law_table {K : PySem.W.Frag} {f : Addr} {fd : FuncData} (Fn : Fun K "_law_table" "_law_table" s__law_table f fd) : Binds K fd ["_law_script", "_law_at"] [] := Fn.binds fun _ _ _ _ _ _ us hl => match us, hl with | [_, _], _ => rfl
abbrev s__law_refused : Stmt := top 43
theorem sc__law_refused : FnScope ["_law_e", "_law_flags"] ["_law_e"] (defScope s__law_refused) := ⟨rfl, rfl, rfl, by decide +kernel, rfl, by decide +kernel, by decide +kernel⟩
theorem bd__law_refused {K : PySem.W.Frag} {f : Addr} {fd : FuncData} (Fn : Fun K "_law_refused" "_law_refused" s__law_refused f fd) : Binds K fd ["_law_e"] [] := Fn.binds fun _ _ _ _ _ _ us hl => match us, hl with | [_], _ => rfl
abbrev s_behind_first_dot : Stmt := top 24
theorem sc_behind_first_dot : FnScope ["end"] ["end"] (defScope s_behind_first_dot) := ⟨rfl, rfl, rfl, by decide +kernel, rfl, by decide +kernel, by decide +kernel⟩
theorem bd_behind_first_dot {K : PySem.W.Frag} {f : Addr} {fd : FuncData} (Fn : Fun K "behind_first_dot" "behind_first_dot" s_behind_first_dot f fd) : Binds K fd ["end"] [] := Fn.binds fun _ _ _ _ _ _ us hl => match us, hl with | [_], _ => rfl
abbrev s_ends_longest_first : Stmt := top 23
theorem sc_ends_longest_first : FnScope ["name", "parts"] ["name"] (defScope s_ends_longest_first) := ⟨rfl, rfl, rfl, by decide +kernel, rfl, by decide +kernel, by decide +kernel⟩
theorem bd_ends_longest_first {K : PySem.W.Frag} {f : Addr} {fd : FuncData} (Fn : Fun K "ends_longest_first" "ends_longest_first" s_ends_longest_first f fd) : Binds K fd ["name"] [] := Fn.binds fun _ _ _ _ _ _ us hl => match us, hl with | [_], _ => rfl
abbrev s_is_told_open : Stmt := top 25
theorem sc_is_told_open : FnScope ["table", "end"] ["table", "end"] (defScope s_is_told_open) := ⟨rfl, rfl, rfl, by decide +kernel, rfl, by decide +kernel, by decide +kernel⟩
theorem bd_is_told_open {K : PySem.W.Frag} {f : Addr} {fd : FuncData} (Fn : Fun K "is_told_open" "is_told_open" s_is_told_open f fd) : Binds K fd ["table", "end"] [] := Fn.binds fun _ _ _ _ _ _ us hl => match us, hl with | [_, _], _ => rfl
abbrev s_find_open_end : Stmt := top 27
theorem sc_find_open_end : FnScope ["table", "name", "ends", "end"] ["table", "name"] (defScope s_find_open_end) := ⟨rfl, rfl, rfl, by decide +kernel, rfl, by decide +kernel, by decide +kernel⟩
theorem bd_find_open_end {K : PySem.W.Frag} {f : Addr} {fd : FuncData} (Fn : Fun K "find_open_end" "find_open_end" s_find_open_end f fd) : Binds K fd ["table", "name"] [] := Fn.binds fun _ _ _ _ _ _ us hl => match us, hl with | [_, _], _ => rfl
abbrev s_need_name : Stmt := top 21
theorem sc_need_name : FnScope ["thing"] ["thing"] (defScope s_need_name) := ⟨rfl, rfl, rfl, by decide +kernel, rfl, by decide +kernel, by decide +kernel⟩
theorem bd_need_name {K : PySem.W.Frag} {f : Addr} {fd : FuncData} (Fn : Fun K "need_name" "need_name" s_need_name f fd) : Binds K fd ["thing"] [] := Fn.binds fun _ _ _ _ _ _ us hl => match us, hl with | [_], _ => rfl
abbrev s_is_rule : Stmt := top 19
theorem sc_is_rule : FnScope ["thing"] ["thing"] (defScope s_is_rule) := ⟨rfl, rfl, rfl, by decide +kernel, rfl, by decide +kernel, by decide +kernel⟩
theorem bd_is_rule {K : PySem.W.Frag} {f : Addr} {fd : FuncData} (Fn : Fun K "is_rule" "is_rule" s_is_rule f fd) : Binds K fd ["thing"] [] := Fn.binds fun _ _ _ _ _ _ us hl => match us, hl with | [_], _ => rfl
abbrev s_is_table : Stmt := top 20
theorem sc_is_table : FnScope ["thing"] ["thing"] (defScope s_is_table) := ⟨rfl, rfl, rfl, by decide +kernel, rfl, by decide +kernel, by decide +kernel⟩
theorem bd_is_table {K : PySem.W.Frag} {f : Addr} {fd : FuncData} (Fn : Fun K "is_table" "is_table" s_is_table f fd) : Binds K fd ["thing"] [] := Fn.binds fun _ _ _ _ _ _ us hl => match us, hl with | [_], _ => rfl
abbrev s_need_table : Stmt := top 22
theorem sc_need_table : FnScope ["thing"] ["thing"] (defScope s_need_table) := ⟨rfl, rfl, rfl, by decide +kernel, rfl, by decide +kernel, by decide +kernel⟩
theorem bd_need_table {K : PySem.W.Frag} {f : Addr} {fd : FuncData} (Fn : Fun K "need_table" "need_table" s_need_table f fd) : Binds K fd ["thing"] [] := Fn.binds fun _ _ _ _ _ _ us hl => match us, hl with | [_], _ => rfl
abbrev s_open_end : Stmt := top 26
theorem sc_open_end : FnScope ["table", "name"] ["table", "name"] (defScope s_open_end) := ⟨rfl, rfl, rfl, by decide +kernel, rfl, by decide +kernel, by decide +kernel⟩
theorem bd_open_end {K : PySem.W.Frag} {f : Addr} {fd : FuncData} (Fn : Fun K "open_end" "open_end" s_open_end f fd) : Binds K fd ["table", "name"] [] := Fn.binds fun _ _ _ _ _ _ us hl => match us, hl with | [_, _], _ => rfl
abbrev s_find_own_end : Stmt := top 29
theorem sc_find_own_end : FnScope ["table", "name", "end", "ends", "place"] ["table", "name"] (defScope s_find_own_end) := ⟨rfl, rfl, rfl, by decide +kernel, rfl, by decide +kernel, by decide +kernel⟩
theorem bd_find_own_end {K : PySem.W.Frag} {f : Addr} {fd : FuncData} (Fn : Fun K "find_own_end" "find_own_end" s_find_own_end f fd) : Binds K fd ["table", "name"] [] := Fn.binds fun _ _ _ _ _ _ us hl => match us, hl with | [_, _], _ => rfl
abbrev s_own_end : Stmt := top 28
theorem sc_own_end : FnScope ["table", "name"] ["table", "name"] (defScope s_own_end) := ⟨rfl, rfl, rfl, by decide +kernel, rfl, by decide +kernel, by decide +kernel⟩
theorem bd_own_end {K : PySem.W.Frag} {f : Addr} {fd : FuncData} (Fn : Fun K "own_end" "own_end" s_own_end f fd) : Binds K fd ["table", "name"] [] := Fn.binds fun _ _ _ _ _ _ us hl => match us, hl with | [_, _], _ => rfl
abbrev s__law_told : Stmt := top 44
theorem sc__law_told : FnScope ["_law_way", "_law_table_here", "_law_name_here", "_law_e"] ["_law_way", "_law_table_here", "_law_name_here"] (defScope s__law_told) := ⟨rfl, rfl, rfl, by decide +kernel, rfl, by decide +kernel, by decide +kernel⟩
theorem bd__law_told {K : PySem.W.Frag} {f : Addr} {fd : FuncData} (Fn : Fun K "_law_told" "_law_told" s__law_told f fd) : Binds K fd ["_law_way", "_law_table_here", "_law_name_here"] [] := Fn.binds fun _ _ _ _ _ _ us hl => match us, hl with | [_, _, _], _ => rfl
abbrev s_law : Stmt := top 47
theorem sc_law : FnScope ["_law_script", "_law_table_here", "_law_at", "_law_some", "_law_odd", "_law_things", "_law_thing", "_law_told_here", "_law_k", "_law_name_here", "_law_due", "_law_rule", "_law_bad"] ["_law_script"] (defScope s_law) := ⟨rfl, rfl, rfl, by decide +kernel, rfl, by decide +kernel, by decide +kernel⟩
def B__law_cell : FnS := (fSeq (fIfS (fB (f2 scrD (fVar 0) (fLst aNil))) (fRet (f2 mulD (fC (.int 7)) (fVar 1))) (fun ρ => some (.nx ρ))) (fRet (f2 addD (f2 ixD (fVar 0) (f2 modD (fVar 1) (fB1 lenD (aCons (fVar 0) aNil)))) (f2 mulD (fC (.int 6553)) (f2 fdivD (fVar 1) (fB1 lenD (aCons (fVar 0) aNil)))))))
def F__law_cell : List Dv → Option (Rs Dv) := runF 2 B__law_cell
set_option maxHeartbeats 4000000 in
theorem fn__law_cell {P : Program} {w : World} {K : PySem.W.Frag} {mg : Str → Option Value} {base : Heap} {f : Addr} {fd : FuncData} (Fn : Fun K "_law_cell" "_law_cell" s__law_cell f fd) (m_len : mg "len" = none) :
    FnOk P w K mg base CX0 1 f fd ["_law_script", "_law_k"] (spF K F__law_cell 2) :=
  fn_ok2 (k := 0) ["_law_script", "_law_k"] ["_law_script", "_law_k"] B__law_cell (by kernel_rfl) (by kernel_rfl) Fn sc__law_cell fun cdv A outer s H E hr => (fss_cons (fs_if (ft_cmp (o_scr hr.units0) g_scr (fe_lv 0) (fe_lst fa_nil) (nomark _)) (fss_one (fs_ret (fe_op op_mul g_mul fe_int (fe_lv 1)))) fss_nil) (fss_one (fs_ret (fe_op o_add g_add (fe_ix (fe_lv 0) (fe_op op_mod g_mod (fe_lv 1) (fe_len (glb (by kernel_rfl)) m_len (fa_cons (fe_lv 0) fa_nil)))) (fe_op op_mul g_mul fe_int (fe_op op_fdiv g_fdiv (fe_lv 1) (fe_len (glb (by kernel_rfl)) m_len (fa_cons (fe_lv 0) fa_nil))))))))
def B__law_drawn : FnS := (fSeq (fSet 3 (f2 modD (f2 addD (f2 mulD (f2 modD (fCall F__law_cell 2 (aCons (fVar 0) (aCons (fVar 1) aNil))) (fC (.int 2147483563))) (fC (.int 69069))) (f2 mulD (fC (.int 104723)) (f2 addD (fVar 1) (fC (.int 1))))) (fC (.int 2147483563)))) (fSeq (fSet 3 (f2 modD (f2 addD (f2 mulD (fVar 3) (fVar 3)) (f2 fdivD (fVar 3) (fC (.int 3)))) (fC (.int 2147483399)))) (fRet (f2 modD (f2 fdivD (f2 modD (f2 addD (f2 mulD (fVar 3) (fVar 3)) (f2 fdivD (fVar 3) (fC (.int 7)))) (fC (.int 2147483647))) (fC (.int 11))) (fVar 2)))))
def F__law_drawn : List Dv → Option (Rs Dv) := runF 4 B__law_drawn
set_option maxHeartbeats 4000000 in
theorem fn__law_drawn {P : Program} {w : World} {K : PySem.W.Frag} {mg : Str → Option Value} {base : Heap} {f : Addr} {fd : FuncData} (Fn : Fun K "_law_drawn" "_law_drawn" s__law_drawn f fd) (h__law_cell : Has P w K mg base "_law_cell" 1 ["_law_script", "_law_k"] F__law_cell) :
    FnOk P w K mg base CX0 2 f fd ["_law_script", "_law_k", "_law_many"] (spF K F__law_drawn 3) :=
  fn_ok2 (k := 1) ["_law_script", "_law_k", "_law_many", "_law_cell_here"] ["_law_script", "_law_k", "_law_many"] B__law_drawn (by kernel_rfl) (by kernel_rfl) Fn sc__law_drawn fun cdv A outer s H E hr => (fss_cons (fs_set 3 sc__law_drawn.nd (by kernel_rfl) (.inl (by kernel_rfl)) (fe_op op_mod g_mod (fe_op o_add g_add (fe_op op_mul g_mul (fe_op op_mod g_mod (fe_callH (k' := 1) 1 ["_law_script", "_law_k"] F__law_cell h__law_cell hr (by decide) (glb (by kernel_rfl)) (fa_cons (fe_lv 0) (fa_cons (fe_lv 1) fa_nil))) fe_int) fe_int) (fe_op op_mul g_mul fe_int (fe_op o_add g_add (fe_lv 1) fe_int))) fe_int)) (fss_cons (fs_set 3 sc__law_drawn.nd (by kernel_rfl) (.inl (by kernel_rfl)) (fe_op op_mod g_mod (fe_op o_add g_add (fe_op op_mul g_mul (fe_lv 3) (fe_lv 3)) (fe_op op_fdiv g_fdiv (fe_lv 3) fe_int)) fe_int)) (fss_one (fs_ret (fe_op op_mod g_mod (fe_op op_fdiv g_fdiv (fe_op op_mod g_mod (fe_op o_add g_add (fe_op op_mul g_mul (fe_lv 3) (fe_lv 3)) (fe_op op_fdiv g_fdiv (fe_lv 3) fe_int)) fe_int) fe_int) (fe_lv 2))))))
def B_is_text_of : FnS := (fSeq (fIfS (bNot (fB (f1 (isiD tbStr) (fVar 0)))) (fRet (fC (.bl false))) (fun ρ => some (.nx ρ))) (fSeq (fIfS (bOr (fB (f2 ltX (fB1 lenD (aCons (fVar 0) aNil)) (fVar 2))) (fB (f2 gtD (fB1 lenD (aCons (fVar 0) aNil)) (fVar 3)))) (fRet (fC (.bl false))) (fun ρ => some (.nx ρ))) (fRet (fB1 allD (aCons (fComp [("signs", 1)] (iSeq (fVar 0)) none (f2 inD (fVar 0) (fVar 1))) aNil)))))
def F_is_text_of : List Dv → Option (Rs Dv) := runF 4 B_is_text_of
set_option maxHeartbeats 4000000 in
theorem fn_is_text_of {P : Program} {w : World} {K : PySem.W.Frag} {mg : Str → Option Value} {base : Heap} {f : Addr} {fd : FuncData} (Fn : Fun K "is_text_of" "is_text_of" s_is_text_of f fd) (m_all : mg "all" = none) (m_isinstance : mg "isinstance" = none) (m_len : mg "len" = none) (m_str : mg "str" = none) :
    FnOk P w K mg base CX0 1 f fd ["thing", "signs", "least", "most"] (spF K F_is_text_of 4) :=
  fn_ok2 (k := 0) ["thing", "signs", "least", "most"] ["thing", "signs", "least", "most"] B_is_text_of (by kernel_rfl) (by kernel_rfl) Fn sc_is_text_of fun cdv A outer s H E hr => (fss_cons (fs_if (ft_not (ft_val (fe_isi (T := "str") kit_str bt_str (by decide +kernel) (by kernel_rfl) (glb (by kernel_rfl)) m_isinstance (glb (by kernel_rfl)) m_str (fe_lv 0)))) (fss_one (fs_ret fe_bl)) fss_nil) (fss_cons (fs_if (FW.ft (fw_or (ft_cmp o_ltX g_ltX (fe_len (glb (by kernel_rfl)) m_len (fa_cons (fe_lv 0) fa_nil)) (fe_lv 2) (nomark _)) (fw_or1 (ft_cmp op_gt (g_cmp _) (fe_len (glb (by kernel_rfl)) m_len (fa_cons (fe_lv 0) fa_nil)) (fe_lv 3) (nomark _))))) (fss_one (fs_ret fe_bl)) fss_nil) (fss_one (fs_ret (fe_all rfl (glb (by kernel_rfl)) m_all (fa_cons (fe_compF (defScope s_is_text_of) ["thing", "signs", "least", "most"] ["sign"] [0] [("signs", 1)] (by kernel_rfl) (by kernel_rfl) ⟨by kernel_rfl, by decide +kernel, by decide +kernel, by decide +kernel, by decide +kernel⟩ (by kernel_rfl) rfl (back1 _) (FI.toG (fi_seq (fe_lv 0))) (fun _ _ _ _ => fg_name 0 (show (["sign", "signs"] : List Str).Nodup by decide +kernel) (by kernel_rfl) (.inl (by kernel_rfl)) (.inr (by kernel_rfl))) (fun _ _ _ _ => (fe_cmp o_in g_in (fe_lv 0) (fe_cv 1) (by kernel_rfl))) (fun _ _ _ _ => rfl)) fa_nil))))))
def B_is_label : FnS := (fSeq (fIfS (bNot (fB (fCall F_is_text_of 4 (aCons (fVar 0) (aCons (fC (.str "abcdefghijklmnopqrstuvwxyz0123456789-")) (aCons (fC (.int 1)) (aCons (fC (.int 8)) aNil))))))) (fRet (fC (.bl false))) (fun ρ => some (.nx ρ))) (fRet (vAnd (vNot (fM (strB Txt.startswith) (fVar 0) (aCons (fC (.str "-")) aNil))) (vNot (fM (strB Txt.endswith) (fVar 0) (aCons (fC (.str "-")) aNil))))))
def F_is_label : List Dv → Option (Rs Dv) := runF 1 B_is_label
set_option maxHeartbeats 4000000 in
theorem fn_is_label {P : Program} {w : World} {K : PySem.W.Frag} {mg : Str → Option Value} {base : Heap} {f : Addr} {fd : FuncData} (Fn : Fun K "is_label" "is_label" s_is_label f fd) (h_is_text_of : Has P w K mg base "is_text_of" 1 ["thing", "signs", "least", "most"] F_is_text_of) {t_LABEL_SIGNS : Tok} (m_LABEL_SIGNS : mg "LABEL_SIGNS" = some (.str (Str.ofString "abcdefghijklmnopqrstuvwxyz0123456789-") t_LABEL_SIGNS)) {t_LONGEST_LABEL : Tok} (m_LONGEST_LABEL : mg "LONGEST_LABEL" = some (.int 8 t_LONGEST_LABEL)) :
    FnOk P w K mg base CX0 2 f fd ["thing"] (spF K F_is_label 1) :=
  fn_ok2 (k := 1) ["thing"] ["thing"] B_is_label (by kernel_rfl) (by kernel_rfl) Fn sc_is_label fun cdv A outer s H E hr => (fss_cons (fs_if (ft_not (ft_val (fe_callH (k' := 1) 1 ["thing", "signs", "least", "most"] F_is_text_of h_is_text_of hr (by decide) (glb (by kernel_rfl)) (fa_cons (fe_lv 0) (fa_cons (fe_gstr (glb (by kernel_rfl)) m_LABEL_SIGNS) (fa_cons fe_int (fa_cons (fe_gint (glb (by kernel_rfl)) m_LONGEST_LABEL) fa_nil))))))) (fss_one (fs_ret fe_bl)) fss_nil) (fss_one (fs_ret (fe_and (fe_not (fe_strM PySem.F.slot_str_startswith PySem.F.type_str_startswith mt_sw g_strB (fe_lv 0) (fa_cons fe_str fa_nil))) (fe_one (fe_not (fe_strM PySem.F.slot_str_endswith PySem.F.type_str_endswith mt_ew g_strB (fe_lv 0) (fa_cons fe_str fa_nil))))))))
def B_is_name : FnS := (fSeq (fIfS (bNot (fB (f1 (isiD tbStr) (fVar 0)))) (fRet (fC (.bl false))) (fun ρ => some (.nx ρ))) (fSeq (fSet 1 (fM (splitD) (fVar 0) (aCons (fC (.str ".")) aNil))) (fSeq (fIfS (bOr (fB (f2 gtD (fB1 lenD (aCons (fVar 1) aNil)) (fC (.int 5)))) (bNot (fB (fB1 allD (aCons (fComp [] (iSeq (fVar 1)) none (fCall F_is_label 1 (aCons (fVar 0) aNil))) aNil))))) (fRet (fC (.bl false))) (fun ρ => some (.nx ρ))) (fRet (vNot (fCall F_is_text_of 4 (aCons (f2 ixD (fVar 1) (f1 negD (fC (.int 1)))) (aCons (fC (.str "0123456789")) (aCons (fC (.int 1)) (aCons (fC (.int 8)) aNil))))))))))
def F_is_name : List Dv → Option (Rs Dv) := runF 2 B_is_name
set_option maxHeartbeats 4000000 in
theorem fn_is_name {P : Program} {w : World} {K : PySem.W.Frag} {mg : Str → Option Value} {base : Heap} {f : Addr} {fd : FuncData} (Fn : Fun K "is_name" "is_name" s_is_name f fd) (h_is_label : Has P w K mg base "is_label" 2 ["thing"] F_is_label) (h_is_text_of : Has P w K mg base "is_text_of" 1 ["thing", "signs", "least", "most"] F_is_text_of) (m_all : mg "all" = none) (m_isinstance : mg "isinstance" = none) (m_len : mg "len" = none) (m_str : mg "str" = none) {t_FIGURES : Tok} (m_FIGURES : mg "FIGURES" = some (.str (Str.ofString "0123456789") t_FIGURES)) {t_LONGEST_LABEL : Tok} (m_LONGEST_LABEL : mg "LONGEST_LABEL" = some (.int 8 t_LONGEST_LABEL)) {t_MOST_LABELS : Tok} (m_MOST_LABELS : mg "MOST_LABELS" = some (.int 5 t_MOST_LABELS)) :
    FnOk P w K mg base CX0 3 f fd ["thing"] (spF K F_is_name 1) :=
  fn_ok2 (k := 2) ["thing", "parts"] ["thing"] B_is_name (by kernel_rfl) (by kernel_rfl) Fn sc_is_name fun cdv A outer s H E hr => (fss_cons (fs_if (ft_not (ft_val (fe_isi (T := "str") kit_str bt_str (by decide +kernel) (by kernel_rfl) (glb (by kernel_rfl)) m_isinstance (glb (by kernel_rfl)) m_str (fe_lv 0)))) (fss_one (fs_ret fe_bl)) fss_nil) (fss_cons (fs_set 1 sc_is_name.nd (by kernel_rfl) (.inl (by kernel_rfl)) (fe_strM PySem.F.slot_str_split PySem.F.type_str_split mt_split g_split (fe_lv 0) (fa_cons fe_str fa_nil))) (fss_cons (fs_if (FW.ft (fw_or (ft_cmp op_gt (g_cmp _) (fe_len (glb (by kernel_rfl)) m_len (fa_cons (fe_lv 1) fa_nil)) (fe_gint (glb (by kernel_rfl)) m_MOST_LABELS) (nomark _)) (fw_or1 (ft_not (ft_val (fe_all rfl (glb (by kernel_rfl)) m_all (fa_cons (fe_compF (defScope s_is_name) ["thing", "parts"] ["part"] [0] [] (by kernel_rfl) (by kernel_rfl) ⟨by kernel_rfl, by decide +kernel, by decide +kernel, by decide +kernel, by decide +kernel⟩ (by kernel_rfl) rfl (back1 _) (FI.toG (fi_seq (fe_lv 1))) (fun _ _ _ _ => fg_name 0 (show (["part"] : List Str).Nodup by decide +kernel) (by kernel_rfl) (.inl (by kernel_rfl)) (.inr (by kernel_rfl))) (fun _ _ _ _ => (fe_callH (k' := 2) 2 ["thing"] F_is_label h_is_label hr (by decide) (glb (by kernel_rfl)) (fa_cons (fe_lv 0) fa_nil))) (fun _ _ _ _ => rfl)) fa_nil))))))) (fss_one (fs_ret fe_bl)) fss_nil) (fss_one (fs_ret (fe_not (fe_callH (k' := 2) 1 ["thing", "signs", "least", "most"] F_is_text_of h_is_text_of hr (by decide) (glb (by kernel_rfl)) (fa_cons (fe_ix (fe_lv 1) (fe_neg fe_int)) (fa_cons (fe_gstr (glb (by kernel_rfl)) m_FIGURES) (fa_cons fe_int (fa_cons (fe_gint (glb (by kernel_rfl)) m_LONGEST_LABEL) fa_nil)))))))))))
def B__law_is_rule : FnS := (fSeq (fIfS (bNot (fB (f1 (isiD tbStr) (fVar 0)))) (fRet (fC (.bl false))) (fun ρ => some (.nx ρ))) (fSeq (fIfS (fB (fM (strB Txt.startswith) (fVar 0) (aCons (fC (.str "*.")) aNil))) (fRet (fCall F_is_name 1 (aCons (fCut (fVar 0) (oSome (fC (.int 2))) oNone) aNil))) (fun ρ => some (.nx ρ))) (fSeq (fIfS (fB (fM (strB Txt.startswith) (fVar 0) (aCons (fC (.str "!")) aNil))) (fRet (vAnd (fCall F_is_name 1 (aCons (fCut (fVar 0) (oSome (fC (.int 1))) oNone) aNil)) (f2 gtD (fM (strI Txt.count) (fVar 0) (aCons (fC (.str ".")) aNil)) (fC (.int 0))))) (fun ρ => some (.nx ρ))) (fRet (fCall F_is_name 1 (aCons (fVar 0) aNil))))))
def F__law_is_rule : List Dv → Option (Rs Dv) := runF 1 B__law_is_rule
set_option maxHeartbeats 4000000 in
theorem fn__law_is_rule {P : Program} {w : World} {K : PySem.W.Frag} {mg : Str → Option Value} {base : Heap} {f : Addr} {fd : FuncData} (Fn : Fun K "_law_is_rule" "_law_is_rule" s__law_is_rule f fd) (h_is_name : Has P w K mg base "is_name" 3 ["thing"] F_is_name) (m_isinstance : mg "isinstance" = none) (m_str : mg "str" = none) :
    FnOk P w K mg base CX0 4 f fd ["_law_thing"] (spF K F__law_is_rule 1) :=
  fn_ok2 (k := 3) ["_law_thing"] ["_law_thing"] B__law_is_rule (by kernel_rfl) (by kernel_rfl) Fn sc__law_is_rule fun cdv A outer s H E hr => (fss_cons (fs_if (ft_not (ft_val (fe_isi (T := "str") kit_str bt_str (by decide +kernel) (by kernel_rfl) (glb (by kernel_rfl)) m_isinstance (glb (by kernel_rfl)) m_str (fe_lv 0)))) (fss_one (fs_ret fe_bl)) fss_nil) (fss_cons (fs_if (ft_val (fe_strM PySem.F.slot_str_startswith PySem.F.type_str_startswith mt_sw g_strB (fe_lv 0) (fa_cons fe_str fa_nil))) (fss_one (fs_ret (fe_callH (k' := 3) 3 ["thing"] F_is_name h_is_name hr (by decide) (glb (by kernel_rfl)) (fa_cons (fe_cut (fe_lv 0) (fo_some fe_int) fo_none) fa_nil)))) fss_nil) (fss_cons (fs_if (ft_val (fe_strM PySem.F.slot_str_startswith PySem.F.type_str_startswith mt_sw g_strB (fe_lv 0) (fa_cons fe_str fa_nil))) (fss_one (fs_ret (fe_and (fe_callH (k' := 3) 3 ["thing"] F_is_name h_is_name hr (by decide) (glb (by kernel_rfl)) (fa_cons (fe_cut (fe_lv 0) (fo_some fe_int) fo_none) fa_nil)) (fe_one (fe_cmp op_gt (g_cmp _) (fe_strM PySem.F.slot_str_count PySem.F.type_str_count mt_count g_strI (fe_lv 0) (fa_cons fe_str fa_nil)) fe_int (nomark _)))))) fss_nil) (fss_one (fs_ret (fe_callH (k' := 3) 3 ["thing"] F_is_name h_is_name hr (by decide) (glb (by kernel_rfl)) (fa_cons (fe_lv 0) fa_nil)))))))
def B__law_is_table : FnS := (fSeq (fIfS (bOr (bNot (fB (f1 (isiD tbTup) (fVar 0)))) (fB (f2 gtD (fB1 lenD (aCons (fVar 0) aNil)) (fC (.int 8))))) (fRet (fC (.bl false))) (fun ρ => some (.nx ρ))) (fSeq (fIfS (fB (f2 neX (fComp [] (iSeq (fVar 0)) (some (bNot (fB (fCall F__law_is_rule 1 (aCons (fVar 0) aNil))))) (fVar 0)) (fLst aNil))) (fRet (fC (.bl false))) (fun ρ => some (.nx ρ))) (fRet (f2 eqX (fB1 listD (aCons (fVar 0) aNil)) (fB1 sortSet (aCons (fVar 0) aNil))))))
def F__law_is_table : List Dv → Option (Rs Dv) := runF 1 B__law_is_table
set_option maxHeartbeats 4000000 in
theorem fn__law_is_table {P : Program} {w : World} {K : PySem.W.Frag} {mg : Str → Option Value} {base : Heap} {f : Addr} {fd : FuncData} (Fn : Fun K "_law_is_table" "_law_is_table" s__law_is_table f fd) (h__law_is_rule : Has P w K mg base "_law_is_rule" 4 ["_law_thing"] F__law_is_rule) (m_isinstance : mg "isinstance" = none) (m_len : mg "len" = none) (m_list : mg "list" = none) (m_set : mg "set" = none) (m_sorted : mg "sorted" = none) (m_tuple : mg "tuple" = none) :
    FnOk P w K mg base CX0 5 f fd ["_law_thing"] (spF K F__law_is_table 1) :=
  fn_ok2 (k := 4) ["_law_thing"] ["_law_thing"] B__law_is_table (by kernel_rfl) (by kernel_rfl) Fn sc__law_is_table fun cdv A outer s H E hr => (fss_cons (fs_if (FW.ft (fw_or (ft_not (ft_val (fe_isi (T := "tuple") kit_tup bt_tuple (by decide +kernel) (by kernel_rfl) (glb (by kernel_rfl)) m_isinstance (glb (by kernel_rfl)) m_tuple (fe_lv 0)))) (fw_or1 (ft_cmp op_gt (g_cmp _) (fe_len (glb (by kernel_rfl)) m_len (fa_cons (fe_lv 0) fa_nil)) fe_int (nomark _))))) (fss_one (fs_ret fe_bl)) fss_nil) (fss_cons (fs_if (ft_cmp (o_neX hr.units) g_neX (fe_compF (defScope s__law_is_table) ["_law_thing"] ["_law_one"] [0] [] (by kernel_rfl) (by kernel_rfl) ⟨by kernel_rfl, by decide +kernel, by decide +kernel, by decide +kernel, by decide +kernel⟩ (by kernel_rfl) rfl (back1 _) (FI.toG (fi_seq (fe_lv 0))) (fun _ _ _ _ => fg_name 0 (show (["_law_one"] : List Str).Nodup by decide +kernel) (by kernel_rfl) (.inl (by kernel_rfl)) (.inr (by kernel_rfl))) (fun _ _ _ _ => (fe_lv 0)) (fun _ _ _ _ => ⟨_, rfl, (ft_not (ft_val (fe_callH (k' := 4) 4 ["_law_thing"] F__law_is_rule h__law_is_rule hr (by decide) (glb (by kernel_rfl)) (fa_cons (fe_lv 0) fa_nil))))⟩)) (fe_lst fa_nil) (nomark _)) (fss_one (fs_ret fe_bl)) fss_nil) (fss_one (fs_ret (fe_cmp (o_eqX hr.units) g_eqX (fe_list (glb (by kernel_rfl)) m_list (fa_cons (fe_lv 0) fa_nil)) (fe_sortSet rfl (glb (by kernel_rfl)) m_sorted (glb (by kernel_rfl)) m_set (fa_cons (fe_lv 0) fa_nil)) (nomark _))))))
def B__law_name : FnS := (fSeq (fSet 2 (fLst (aCons (fC (.str "a.b")) (aCons (fC (.str "b")) (aCons (fC (.str "x.a.b")) (aCons (fC (.str "y.x.a.b")) (aCons (fC (.str "c.uk")) (aCons (fC (.str "uk")) (aCons (fC (.str "d.c.uk")) (aCons (fC (.str "e.d.c.uk")) aNil)))))))))) (fSeq (fSet 2 (f2 addD (fVar 2) (fLst (aCons (fC (.str "w.ck")) (aCons (fC (.str "v.w.ck")) (aCons (fC (.str "ck")) (aCons (fC (.str "g-1.a.b")) (aCons (fC (.str "7.b")) (aCons (fC (.str "p.q")) aNil))))))))) (fRet (f2 ixD (fVar 2) (fCall F__law_drawn 3 (aCons (fVar 0) (aCons (fVar 1) (aCons (fB1 lenD (aCons (fVar 2) aNil)) aNil))))))))
def F__law_name : List Dv → Option (Rs Dv) := runF 3 B__law_name
set_option maxHeartbeats 4000000 in
theorem fn__law_name {P : Program} {w : World} {K : PySem.W.Frag} {mg : Str → Option Value} {base : Heap} {f : Addr} {fd : FuncData} (Fn : Fun K "_law_name" "_law_name" s__law_name f fd) (h__law_drawn : Has P w K mg base "_law_drawn" 2 ["_law_script", "_law_k", "_law_many"] F__law_drawn) (m_len : mg "len" = none) :
    FnOk P w K mg base CX0 3 f fd ["_law_script", "_law_at"] (spF K F__law_name 2) :=
  fn_ok2 (k := 2) ["_law_script", "_law_at", "_law_some"] ["_law_script", "_law_at"] B__law_name (by kernel_rfl) (by kernel_rfl) Fn sc__law_name fun cdv A outer s H E hr => (fss_cons (fs_set 2 sc__law_name.nd (by kernel_rfl) (.inl (by kernel_rfl)) (fe_lst (fa_cons fe_str (fa_cons fe_str (fa_cons fe_str (fa_cons fe_str (fa_cons fe_str (fa_cons fe_str (fa_cons fe_str (fa_cons fe_str fa_nil)))))))))) (fss_cons (fs_set 2 sc__law_name.nd (by kernel_rfl) (.inl (by kernel_rfl)) (fe_op o_add g_add (fe_lv 2) (fe_lst (fa_cons fe_str (fa_cons fe_str (fa_cons fe_str (fa_cons fe_str (fa_cons fe_str (fa_cons fe_str fa_nil))))))))) (fss_one (fs_ret (fe_ix (fe_lv 2) (fe_callH (k' := 2) 2 ["_law_script", "_law_k", "_law_many"] F__law_drawn h__law_drawn hr (by decide) (glb (by kernel_rfl)) (fa_cons (fe_lv 0) (fa_cons (fe_lv 1) (fa_cons (fe_len (glb (by kernel_rfl)) m_len (fa_cons (fe_lv 2) fa_nil)) fa_nil)))))))))
def B__law_ends : FnS := (fSeq (fSet 1 (fM (splitD) (fVar 0) (aCons (fC (.str ".")) aNil))) (fRet (fComp [("_law_parts", 1)] (fun ρ => bnd ((aCons (fB1 lenD (aCons (fVar 1) aNil)) aNil) ρ) rng1) none (fM (joinD) (fC (.str ".")) (aCons (fCutT (fVar 1) (oSome (fVar 0)) oNone) aNil)))))
def F__law_ends : List Dv → Option (Rs Dv) := runF 2 B__law_ends
set_option maxHeartbeats 4000000 in
theorem fn__law_ends {P : Program} {w : World} {K : PySem.W.Frag} {mg : Str → Option Value} {base : Heap} {f : Addr} {fd : FuncData} (Fn : Fun K "_law_ends" "_law_ends" s__law_ends f fd) (m_len : mg "len" = none) (m_range : mg "range" = none) :
    FnOk P w K mg base CX0 1 f fd ["_law_name_here"] (spF K F__law_ends 1) :=
  fn_ok2 (k := 0) ["_law_name_here", "_law_parts"] ["_law_name_here"] B__law_ends (by kernel_rfl) (by kernel_rfl) Fn sc__law_ends fun cdv A outer s H E hr => (fss_cons (fs_set 1 sc__law_ends.nd (by kernel_rfl) (.inr (by kernel_rfl)) (fe_strM PySem.F.slot_str_split PySem.F.type_str_split mt_split g_split (fe_lv 0) (fa_cons fe_str fa_nil))) (fss_one (fs_ret (fe_compF (defScope s__law_ends) ["_law_name_here", "_law_parts"] ["_law_k"] [0] [("_law_parts", 1)] (by kernel_rfl) (by kernel_rfl) ⟨by kernel_rfl, by decide +kernel, by decide +kernel, by decide +kernel, by decide +kernel⟩ (by kernel_rfl) rfl (back1 _) (FI.toG (fi_range1 (glb (by kernel_rfl)) m_range (fa_cons (fe_len (glb (by kernel_rfl)) m_len (fa_cons (fe_cv 1) fa_nil)) fa_nil))) (fun _ _ _ _ => fg_name 0 (show (["_law_k", "_law_parts"] : List Str).Nodup by decide +kernel) (by kernel_rfl) (.inl (by kernel_rfl)) (.inr (by kernel_rfl))) (fun _ _ _ _ => (fe_strM PySem.F.slot_str_join PySem.F.type_str_join mt_join g_join fe_str (fa_cons (fe_cutT (fe_cv 1) (fo_some (fe_lv 0)) fo_none) fa_nil))) (fun _ _ _ _ => rfl)))))
def B__law_open : FnS := (fSeq (fSet 2 (fCall F__law_ends 1 (aCons (fVar 1) aNil))) (fSeq (fSet 3 (fCompG 1 [("_law_table_here", 0)] (iSeq (fVar 2)) (gN 0) (some (fB (f2 inX (f2 addT (fC (.str "!")) (fVar 0)) (fVar 1)))) (fVar 0))) (fSeq (fIfS (fB (f2 neX (fVar 3) (fLst aNil))) (fRet (fCutT (f2 ixD (fVar 3) (fC (.int 0))) (oSome (f2 addT (fM sixD (f2 ixD (fVar 3) (fC (.int 0))) (aCons (fC (.str ".")) aNil)) (fC (.int 1)))) oNone)) (fun ρ => some (.nx ρ))) (fSeq (fSet 4 (fCompG 1 [("_law_table_here", 0)] (iSeq (fVar 2)) (gN 0) (some (bOr (fB (f2 inX (fVar 0) (fVar 1))) (bAnd (fB (f2 inX (f2 addT (fC (.str "*")) (fCutT (fVar 0) (oSome (fM (strI Txt.find) (fVar 0) (aCons (fC (.str ".")) aNil))) oNone)) (fVar 1))) (fB (f2 inX (fC (.str ".")) (fVar 0)))))) (fVar 0))) (fRet (f2 ixD (f2 addT (fVar 4) (fCutT (fVar 2) (oSome (f1 negD (fC (.int 1)))) oNone)) (fC (.int 0))))))))
def F__law_open : List Dv → Option (Rs Dv) := runF 5 B__law_open
set_option maxHeartbeats 4000000 in
theorem fn__law_open {P : Program} {w : World} {K : PySem.W.Frag} {mg : Str → Option Value} {base : Heap} {f : Addr} {fd : FuncData} (Fn : Fun K "_law_open" "_law_open" s__law_open f fd) (h__law_ends : Has P w K mg base "_law_ends" 1 ["_law_name_here"] F__law_ends) :
    FnOk P w K mg base CX0 2 f fd ["_law_table_here", "_law_name_here"] (spF K F__law_open 2) :=
  fn_ok2 (k := 1) ["_law_table_here", "_law_name_here", "_law_ends_here", "_law_called", "_law_met"] ["_law_table_here", "_law_name_here"] B__law_open (by kernel_rfl) (by kernel_rfl) Fn sc__law_open fun cdv A outer s H E hr => (fss_cons (fs_set 2 sc__law_open.nd (by kernel_rfl) (.inl (by kernel_rfl)) (fe_callH (k' := 1) 1 ["_law_name_here"] F__law_ends h__law_ends hr (by decide) (glb (by kernel_rfl)) (fa_cons (fe_lv 1) fa_nil))) (fss_cons (fs_setF (ps_setC 3 sc__law_open.nd (by kernel_rfl) (.inl (by kernel_rfl)) (.inl rfl) (defScope s__law_open) ["_law_table_here", "_law_name_here", "_law_ends_here", "_law_called", "_law_met"] ["_law_end"] [0] [("_law_table_here", 0)] (by kernel_rfl) (by kernel_rfl) ⟨by kernel_rfl, by decide +kernel, by decide +kernel, by decide +kernel, by decide +kernel⟩ (by kernel_rfl) rfl (back1 _) (FI.toG (fi_seq (fe_lv 2))) (fun _ _ _ _ => fg_name 0 (show (["_law_end", "_law_table_here"] : List Str).Nodup by decide +kernel) (by kernel_rfl) (.inl (by kernel_rfl)) (.inr (by kernel_rfl))) (fun _ _ _ _ => (fe_lv 0)) (fun _ _ _ _ => ⟨_, rfl, (ft_cmp (o_inX hr.units) g_inX (fe_op o_addT g_addT fe_str (fe_lv 0)) (fe_cv 1) (by kernel_rfl))⟩)) compG_lst) (fss_cons (fs_if (ft_cmp (o_neX hr.units) g_neX (fe_lv 3) (fe_lst fa_nil) (nomark _)) (fss_one (fs_ret (fe_cutT (fe_ix (fe_lv 3) fe_int) (fo_some (fe_op o_addT g_addT (fe_strM PySem.F.slot_str_index PySem.F.type_str_index mt_six g_six (fe_ix (fe_lv 3) fe_int) (fa_cons fe_str fa_nil)) fe_int)) fo_none))) fss_nil) (fss_cons (fs_setF (ps_setC 4 sc__law_open.nd (by kernel_rfl) (.inl (by kernel_rfl)) (.inl rfl) (defScope s__law_open) ["_law_table_here", "_law_name_here", "_law_ends_here", "_law_called", "_law_met"] ["_law_end"] [0] [("_law_table_here", 0)] (by kernel_rfl) (by kernel_rfl) ⟨by kernel_rfl, by decide +kernel, by decide +kernel, by decide +kernel, by decide +kernel⟩ (by kernel_rfl) rfl (back1 _) (FI.toG (fi_seq (fe_lv 2))) (fun _ _ _ _ => fg_name 0 (show (["_law_end", "_law_table_here"] : List Str).Nodup by decide +kernel) (by kernel_rfl) (.inl (by kernel_rfl)) (.inr (by kernel_rfl))) (fun _ _ _ _ => (fe_lv 0)) (fun _ _ _ _ => ⟨_, rfl, (FW.ft (fw_or (ft_cmp (o_inX hr.units) g_inX (fe_lv 0) (fe_cv 1) (by kernel_rfl)) (fw_or1 (FW.ft (fw_and (ft_cmp (o_inX hr.units) g_inX (fe_op o_addT g_addT fe_str (fe_cutT (fe_lv 0) (fo_some (fe_strM PySem.F.slot_str_find PySem.F.type_str_find mt_find g_strI (fe_lv 0) (fa_cons fe_str fa_nil))) fo_none)) (fe_cv 1) (by kernel_rfl)) (fw_and1 (ft_cmp (o_inX hr.units) g_inX fe_str (fe_lv 0) (by kernel_rfl))))))))⟩)) compG_lst) (fss_one (fs_ret (fe_ix (fe_op o_addT g_addT (fe_lv 4) (fe_cutT (fe_lv 2) (fo_some (fe_neg fe_int)) fo_none)) fe_int)))))))
def B__law_own : FnS := (fSeq (fSet 2 (fCall F__law_ends 1 (aCons (fVar 1) aNil))) (fSeq (fSet 3 (fCompG 1 [("_law_table_here", 0), ("_law_name_here", 1)] (iSeq (fVar 2)) (gN 0) (some (fB (f2 gtD (fB1 lenD (aCons (fVar 0) aNil)) (fB1 lenD (aCons (fCall F__law_open 2 (aCons (fVar 1) (aCons (fVar 2) aNil))) aNil))))) (fVar 0))) (fRet (fIf (fB (f2 neX (fVar 3) (fLst aNil))) (f2 ixD (fVar 3) (f1 negD (fC (.int 1)))) (fC .non)))))
def F__law_own : List Dv → Option (Rs Dv) := runF 4 B__law_own
set_option maxHeartbeats 4000000 in
theorem fn__law_own {P : Program} {w : World} {K : PySem.W.Frag} {mg : Str → Option Value} {base : Heap} {f : Addr} {fd : FuncData} (Fn : Fun K "_law_own" "_law_own" s__law_own f fd) (h__law_ends : Has P w K mg base "_law_ends" 1 ["_law_name_here"] F__law_ends) (h__law_open : Has P w K mg base "_law_open" 2 ["_law_table_here", "_law_name_here"] F__law_open) (m_len : mg "len" = none) :
    FnOk P w K mg base CX0 3 f fd ["_law_table_here", "_law_name_here"] (spF K F__law_own 2) :=
  fn_ok2 (k := 2) ["_law_table_here", "_law_name_here", "_law_ends_here", "_law_longer"] ["_law_table_here", "_law_name_here"] B__law_own (by kernel_rfl) (by kernel_rfl) Fn sc__law_own fun cdv A outer s H E hr => (fss_cons (fs_set 2 sc__law_own.nd (by kernel_rfl) (.inl (by kernel_rfl)) (fe_callH (k' := 2) 1 ["_law_name_here"] F__law_ends h__law_ends hr (by decide) (glb (by kernel_rfl)) (fa_cons (fe_cv 1) fa_nil))) (fss_cons (fs_setF (ps_setC 3 sc__law_own.nd (by kernel_rfl) (.inl (by kernel_rfl)) (.inl rfl) (defScope s__law_own) ["_law_table_here", "_law_name_here", "_law_ends_here", "_law_longer"] ["_law_end"] [0] [("_law_table_here", 0), ("_law_name_here", 1)] (by kernel_rfl) (by kernel_rfl) ⟨by kernel_rfl, by decide +kernel, by decide +kernel, by decide +kernel, by decide +kernel⟩ (by kernel_rfl) rfl (back1 _) (FI.toG (fi_seq (fe_lv 2))) (fun _ _ _ _ => fg_name 0 (show (["_law_end", "_law_table_here", "_law_name_here"] : List Str).Nodup by decide +kernel) (by kernel_rfl) (.inl (by kernel_rfl)) (.inr (by kernel_rfl))) (fun _ _ _ _ => (fe_lv 0)) (fun _ _ _ _ => ⟨_, rfl, (ft_cmp op_gt (g_cmp _) (fe_len (glb (by kernel_rfl)) m_len (fa_cons (fe_lv 0) fa_nil)) (fe_len (glb (by kernel_rfl)) m_len (fa_cons (fe_callH (k' := 2) 2 ["_law_table_here", "_law_name_here"] F__law_open h__law_open hr (by decide) (glb (by kernel_rfl)) (fa_cons (fe_cv 1) (fa_cons (fe_cv 2) fa_nil))) fa_nil)) (nomark _))⟩)) compG_lst) (fss_one (fs_ret (fe_if (ft_cmp (o_neX hr.units) g_neX (fe_lv 3) (fe_lst fa_nil) (nomark _)) (fe_ix (fe_lv 3) (fe_neg fe_int)) fe_non)))))
def B__law_table : FnS := (fSeq (fSet 2 (fLst (aCons (fC (.str "!w.ck")) (aCons (fC (.str "*.ck")) (aCons (fC (.str "*.uk")) (aCons (fC (.str "a.b")) (aCons (fC (.str "b")) (aCons (fC (.str "c.uk")) (aCons (fC (.str "q")) (aCons (fC (.str "uk")) aNil)))))))))) (fRet (fB1 tupleD (aCons (fCompG 2 [("_law_script", 0), ("_law_at", 1)] (fun ρ => bnd ((aCons (fVar 2) aNil) ρ) enumD) (gP 0 1) (some (fB (f2 eqX (fCall F__law_drawn 3 (aCons (fVar 2) (aCons (f2 addD (fVar 3) (fVar 0)) (aCons (fC (.int 2)) aNil)))) (fC (.int 0))))) (fVar 1)) aNil))))
def F__law_table : List Dv → Option (Rs Dv) := runF 3 B__law_table
set_option maxHeartbeats 4000000 in
theorem fn__law_table {P : Program} {w : World} {K : PySem.W.Frag} {mg : Str → Option Value} {base : Heap} {f : Addr} {fd : FuncData} (Fn : Fun K "_law_table" "_law_table" s__law_table f fd) (h__law_drawn : Has P w K mg base "_law_drawn" 2 ["_law_script", "_law_k", "_law_many"] F__law_drawn) (m_enumerate : mg "enumerate" = none) (m_tuple : mg "tuple" = none) :
    FnOk P w K mg base CX0 3 f fd ["_law_script", "_law_at"] (spF K F__law_table 2) :=
  fn_ok2 (k := 2) ["_law_script", "_law_at", "_law_some"] ["_law_script", "_law_at"] B__law_table (by kernel_rfl) (by kernel_rfl) Fn sc__law_table fun cdv A outer s H E hr => (fss_cons (fs_set 2 sc__law_table.nd (by kernel_rfl) (.inl (by kernel_rfl)) (fe_lst (fa_cons fe_str (fa_cons fe_str (fa_cons fe_str (fa_cons fe_str (fa_cons fe_str (fa_cons fe_str (fa_cons fe_str (fa_cons fe_str fa_nil)))))))))) (fss_one (fs_ret (fe_tuple (glb (by kernel_rfl)) m_tuple (fa_cons (fe_compG (defScope s__law_table) ["_law_script", "_law_at", "_law_some"] ["_law_k", "_law_rule"] [0, 1] [("_law_script", 0), ("_law_at", 1)] (by kernel_rfl) (by kernel_rfl) ⟨by kernel_rfl, by decide +kernel, by decide +kernel, by decide +kernel, by decide +kernel⟩ (by kernel_rfl) rfl (back2 _) (fig_enum (glb (by kernel_rfl)) m_enumerate (fa_cons (fe_lv 2) fa_nil)) (fun _ _ _ _ => fg_pair 0 1 rfl (show (["_law_k", "_law_rule", "_law_script", "_law_at"] : List Str).Nodup by decide +kernel) (by kernel_rfl) (.inl (by kernel_rfl)) (.inr (by kernel_rfl)) (by kernel_rfl) (.inl (by kernel_rfl)) (.inr (by kernel_rfl))) (fun _ _ _ _ => (fe_lv 1)) (fun _ _ _ _ => ⟨_, rfl, (ft_cmp (o_eqX hr.units) g_eqX (fe_callH (k' := 2) 2 ["_law_script", "_law_k", "_law_many"] F__law_drawn h__law_drawn hr (by decide) (glb (by kernel_rfl)) (fa_cons (fe_cv 2) (fa_cons (fe_op o_add g_add (fe_cv 3) (fe_lv 0)) (fa_cons fe_int fa_nil)))) fe_int (nomark _))⟩)) fa_nil)))))
def BM__law_refused : FnS := (fSeq (fSet 1 (fLst (aCons (f1 (isX (fun c => if c < 7 then some (c == 0) else none)) (fVar 0)) (aCons (f1 (isX (fun c => if c < 7 then some (c == 1) else none)) (fVar 0)) (aCons (f1 (isX (fun c => if c < 7 then some (c == 2) else none)) (fVar 0)) aNil))))) (fSeq (fSet 1 (f2 addD (fVar 1) (fLst (aCons (f1 (isX (fun c => if c < 7 then some (c == 3) else none)) (fVar 0)) (aCons (f1 (isX (fun c => if c < 7 then some (c == 4) else none)) (fVar 0)) (aCons (f1 (isX (fun c => if c < 7 then some (c == 5) else none)) (fVar 0)) aNil)))))) (fSeq (fSet 1 (f2 addD (fVar 1) (fLst (aCons (f1 (isX (fun c => if c < 7 then some (c == 6) else none)) (fVar 0)) aNil)))) (fSeq (fIfS (bOr (fB (f2 neX (fML cntD (fVar 1) (aCons (fC (.bl true)) aNil)) (fC (.int 1)))) (bNot (fB (f1 (isX (fun c => if c < 7 then some true else none)) (fVar 0))))) (fRet (fTup (aCons (fC (.str "refused")) (aCons (f1 negD (fC (.int 1))) aNil)))) (fun ρ => some (.nx ρ))) (fRet (fTup (aCons (fC (.str "refused")) (aCons (fML idxD (fVar 1) (aCons (fC (.bl true)) aNil)) aNil))))))))
def FM__law_refused : List Dv → Option (Rs Dv) := runF 2 BM__law_refused
set_option maxHeartbeats 4000000 in
theorem fm__law_refused {P : Program} {w : World} {K : PySem.W.Frag} {mg : Str → Option Value} {base : Heap} {f : Addr} {fd : FuncData} (Fn : Fun K "_law_refused" "_law_refused" s__law_refused f fd) (m_ValueError : mg "ValueError" = none) (m_isinstance : mg "isinstance" = none) {cls : Nat → Addr} {CJ : Addr} (xa : XAll K 7 cls CJ) (m_NoAsk : mg "NoAsk" = some (.ref (cls 3))) (m_NoJar : mg "NoJar" = some (.ref (cls 5))) (m_NoName : mg "NoName" = some (.ref (cls 0))) (m_NoNote : mg "NoNote" = some (.ref (cls 4))) (m_NoNumber : mg "NoNumber" = some (.ref (cls 6))) (m_NoPath : mg "NoPath" = some (.ref (cls 2))) (m_NoTable : mg "NoTable" = some (.ref (cls 1))) :
    FnM P w K mg base 1 f fd ["_law_e"] FM__law_refused :=
  fn_okM (k := 0) ["_law_e", "_law_flags"] ["_law_e"] BM__law_refused (by kernel_rfl) Fn sc__law_refused fun cdv A outer s H hr => (fss_cons (fs_set 1 sc__law_refused.nd (by kernel_rfl) (.inl (by kernel_rfl)) (fe_lst (fa_cons (fe_isO (xa.xtO 0 (by decide)) m_NoName (glb (by kernel_rfl)) (by kernel_rfl) (glb (by kernel_rfl)) m_isinstance (fe_lv 0)) (fa_cons (fe_isO (xa.xtO 1 (by decide)) m_NoTable (glb (by kernel_rfl)) (by kernel_rfl) (glb (by kernel_rfl)) m_isinstance (fe_lv 0)) (fa_cons (fe_isO (xa.xtO 2 (by decide)) m_NoPath (glb (by kernel_rfl)) (by kernel_rfl) (glb (by kernel_rfl)) m_isinstance (fe_lv 0)) fa_nil))))) (fss_cons (fs_set 1 sc__law_refused.nd (by kernel_rfl) (.inl (by kernel_rfl)) (fe_op o_add g_add (fe_lv 1) (fe_lst (fa_cons (fe_isO (xa.xtO 3 (by decide)) m_NoAsk (glb (by kernel_rfl)) (by kernel_rfl) (glb (by kernel_rfl)) m_isinstance (fe_lv 0)) (fa_cons (fe_isO (xa.xtO 4 (by decide)) m_NoNote (glb (by kernel_rfl)) (by kernel_rfl) (glb (by kernel_rfl)) m_isinstance (fe_lv 0)) (fa_cons (fe_isO (xa.xtO 5 (by decide)) m_NoJar (glb (by kernel_rfl)) (by kernel_rfl) (glb (by kernel_rfl)) m_isinstance (fe_lv 0)) fa_nil)))))) (fss_cons (fs_set 1 sc__law_refused.nd (by kernel_rfl) (.inl (by kernel_rfl)) (fe_op o_add g_add (fe_lv 1) (fe_lst (fa_cons (fe_isO (xa.xtO 6 (by decide)) m_NoNumber (glb (by kernel_rfl)) (by kernel_rfl) (glb (by kernel_rfl)) m_isinstance (fe_lv 0)) fa_nil)))) (fss_cons (fs_if (FW.ft (fw_or (ft_cmp (o_neX hr.units) g_neX (fe_count (fe_lv 1) (fa_cons fe_bl fa_nil)) fe_int (nomark _)) (fw_or1 (ft_not (ft_val (fe_isB (T := "ValueError") xa.xtV bt_ValueError (by decide +kernel) (by kernel_rfl) (glb (by kernel_rfl)) m_isinstance (glb (by kernel_rfl)) m_ValueError (fe_lv 0))))))) (fss_one (fs_ret (fe_tup (fa_cons fe_str (fa_cons (fe_neg fe_int) fa_nil))))) fss_nil) (fss_one (fs_ret (fe_tup (fa_cons fe_str (fa_cons (fe_index (fe_lv 1) (fa_cons fe_bl fa_nil)) fa_nil)))))))))
def B_behind_first_dot : FnS := (fRet (f2 ixD (fM (partD) (fVar 0) (aCons (fC (.str ".")) aNil)) (fC (.int 2))))
def F_behind_first_dot : List Dv → Option (Rs Dv) := runF 1 B_behind_first_dot
set_option maxHeartbeats 4000000 in
theorem fn_behind_first_dot {P : Program} {w : World} {K : PySem.W.Frag} {mg : Str → Option Value} {base : Heap} {f : Addr} {fd : FuncData} (Fn : Fun K "behind_first_dot" "behind_first_dot" s_behind_first_dot f fd) :
    FnOk P w K mg base CX0 1 f fd ["end"] (spF K F_behind_first_dot 1) :=
  fn_ok2 (k := 0) ["end"] ["end"] B_behind_first_dot (by kernel_rfl) (by kernel_rfl) Fn sc_behind_first_dot fun cdv A outer s H E hr => (fss_one (fs_ret (fe_ix (fe_strM PySem.F.slot_str_partition PySem.F.type_str_partition mt_part g_part (fe_lv 0) (fa_cons fe_str fa_nil)) fe_int)))
def B_ends_longest_first : FnS := (fSeq (fSet 1 (fM (splitD) (fVar 0) (aCons (fC (.str ".")) aNil))) (fRet (fComp [("parts", 1)] (fun ρ => bnd ((aCons (fB1 lenD (aCons (fVar 1) aNil)) aNil) ρ) rng1) none (fM (joinD) (fC (.str ".")) (aCons (fCut (fVar 1) (oSome (fVar 0)) oNone) aNil)))))
def F_ends_longest_first : List Dv → Option (Rs Dv) := runF 2 B_ends_longest_first
set_option maxHeartbeats 4000000 in
theorem fn_ends_longest_first {P : Program} {w : World} {K : PySem.W.Frag} {mg : Str → Option Value} {base : Heap} {f : Addr} {fd : FuncData} (Fn : Fun K "ends_longest_first" "ends_longest_first" s_ends_longest_first f fd) (m_len : mg "len" = none) (m_range : mg "range" = none) :
    FnOk P w K mg base CX0 1 f fd ["name"] (spF K F_ends_longest_first 1) :=
  fn_ok2 (k := 0) ["name", "parts"] ["name"] B_ends_longest_first (by kernel_rfl) (by kernel_rfl) Fn sc_ends_longest_first fun cdv A outer s H E hr => (fss_cons (fs_set 1 sc_ends_longest_first.nd (by kernel_rfl) (.inr (by kernel_rfl)) (fe_strM PySem.F.slot_str_split PySem.F.type_str_split mt_split g_split (fe_lv 0) (fa_cons fe_str fa_nil))) (fss_one (fs_ret (fe_compF (defScope s_ends_longest_first) ["name", "parts"] ["place"] [0] [("parts", 1)] (by kernel_rfl) (by kernel_rfl) ⟨by kernel_rfl, by decide +kernel, by decide +kernel, by decide +kernel, by decide +kernel⟩ (by kernel_rfl) rfl (back1 _) (FI.toG (fi_range1 (glb (by kernel_rfl)) m_range (fa_cons (fe_len (glb (by kernel_rfl)) m_len (fa_cons (fe_cv 1) fa_nil)) fa_nil))) (fun _ _ _ _ => fg_name 0 (show (["place", "parts"] : List Str).Nodup by decide +kernel) (by kernel_rfl) (.inl (by kernel_rfl)) (.inr (by kernel_rfl))) (fun _ _ _ _ => (fe_strM PySem.F.slot_str_join PySem.F.type_str_join mt_join g_join fe_str (fa_cons (fe_cut (fe_cv 1) (fo_some (fe_lv 0)) fo_none) fa_nil))) (fun _ _ _ _ => rfl)))))
def B_is_told_open : FnS := (fSeq (fIfS (fB (f2 inD (fVar 1) (fVar 0))) (fRet (fC (.bl true))) (fun ρ => some (.nx ρ))) (fRet (vAnd (f2 inD (fC (.str ".")) (fVar 1)) (f2 inD (f2 addD (fC (.str "*.")) (fCall F_behind_first_dot 1 (aCons (fVar 1) aNil))) (fVar 0)))))
def F_is_told_open : List Dv → Option (Rs Dv) := runF 2 B_is_told_open
set_option maxHeartbeats 4000000 in
theorem fn_is_told_open {P : Program} {w : World} {K : PySem.W.Frag} {mg : Str → Option Value} {base : Heap} {f : Addr} {fd : FuncData} (Fn : Fun K "is_told_open" "is_told_open" s_is_told_open f fd) (h_behind_first_dot : Has P w K mg base "behind_first_dot" 1 ["end"] F_behind_first_dot) :
    FnOk P w K mg base CX0 2 f fd ["table", "end"] (spF K F_is_told_open 2) :=
  fn_ok2 (k := 1) ["table", "end"] ["table", "end"] B_is_told_open (by kernel_rfl) (by kernel_rfl) Fn sc_is_told_open fun cdv A outer s H E hr => (fss_cons (fs_if (ft_cmp o_in g_in (fe_lv 1) (fe_lv 0) (by kernel_rfl)) (fss_one (fs_ret fe_bl)) fss_nil) (fss_one (fs_ret (fe_and (fe_cmp o_in g_in fe_str (fe_lv 1) (by kernel_rfl)) (fe_one (fe_cmp o_in g_in (fe_op o_add g_add fe_str (fe_callH (k' := 1) 1 ["end"] F_behind_first_dot h_behind_first_dot hr (by decide) (glb (by kernel_rfl)) (fa_cons (fe_lv 1) fa_nil))) (fe_lv 0) (by kernel_rfl)))))))
def b_find_open_end_0 : FnS := (fIfS (fB (f2 inD (f2 addD (fC (.str "!")) (fVar 3)) (fVar 0))) (fRet (fCall F_behind_first_dot 1 (aCons (fVar 3) aNil))) (fun ρ => some (.nx ρ)))
def b_find_open_end_1 : FnS := (fIfS (fB (fCall F_is_told_open 2 (aCons (fVar 0) (aCons (fVar 3) aNil)))) (fRet (fVar 3)) (fun ρ => some (.nx ρ)))
def B_find_open_end : FnS := (fSeq (fSet 2 (fCall F_ends_longest_first 1 (aCons (fVar 1) aNil))) (fSeq (fFor 3 [] (iSeq (fVar 2)) b_find_open_end_0) (fSeq (fFor 3 [3] (iSeq (fVar 2)) b_find_open_end_1) (fRet (f2 ixD (fVar 2) (f1 negD (fC (.int 1))))))))
def F_find_open_end : List Dv → Option (Rs Dv) := runF 4 B_find_open_end
set_option maxHeartbeats 4000000 in
theorem fn_find_open_end {P : Program} {w : World} {K : PySem.W.Frag} {mg : Str → Option Value} {base : Heap} {f : Addr} {fd : FuncData} (Fn : Fun K "find_open_end" "find_open_end" s_find_open_end f fd) (h_behind_first_dot : Has P w K mg base "behind_first_dot" 1 ["end"] F_behind_first_dot) (h_ends_longest_first : Has P w K mg base "ends_longest_first" 1 ["name"] F_ends_longest_first) (h_is_told_open : Has P w K mg base "is_told_open" 2 ["table", "end"] F_is_told_open) :
    FnOk P w K mg base CX0 3 f fd ["table", "name"] (spF K F_find_open_end 2) :=
  fn_ok2 (k := 2) ["table", "name", "ends", "end"] ["table", "name"] B_find_open_end (by kernel_rfl) (by kernel_rfl) Fn sc_find_open_end fun cdv A outer s H E hr => (fss_cons (fs_set 2 sc_find_open_end.nd (by kernel_rfl) (.inl (by kernel_rfl)) (fe_callH (k' := 2) 1 ["name"] F_ends_longest_first h_ends_longest_first hr (by decide) (glb (by kernel_rfl)) (fa_cons (fe_lv 1) fa_nil))) (fss_cons (fs_for 3 [] PassesOwn.never rfl (fi_seq (fe_lv 2)) (pg_name (i := 3) sc_find_open_end.nd (by kernel_rfl) (.inl (by kernel_rfl)) (.inl rfl)) (fss_one (fs_if (ft_cmp o_in g_in (fe_op o_add g_add fe_str (fe_lv 3)) (fe_lv 0) (by kernel_rfl)) (fss_one (fs_ret (fe_callH (k' := 2) 1 ["end"] F_behind_first_dot h_behind_first_dot hr (by decide) (glb (by kernel_rfl)) (fa_cons (fe_lv 3) fa_nil)))) fss_nil))) (fss_cons (fs_for 3 [3] PassesOwn.never rfl (fi_seq (fe_lv 2)) (pg_name (i := 3) sc_find_open_end.nd (by kernel_rfl) (.inl (by kernel_rfl)) (.inl rfl)) (fss_one (fs_if (ft_val (fe_callH (k' := 2) 2 ["table", "end"] F_is_told_open h_is_told_open hr (by decide) (glb (by kernel_rfl)) (fa_cons (fe_lv 0) (fa_cons (fe_lv 3) fa_nil)))) (fss_one (fs_ret (fe_lv 3))) fss_nil))) (fss_one (fs_ret (fe_ix (fe_lv 2) (fe_neg fe_int)))))))
def BX_need_name : FnS := (fIfS (bNot (fB (fCall F_is_name 1 (aCons (fVar 0) aNil)))) (fRaise 0 (fC (.str "this is no name"))) (fun ρ => some (.nx ρ)))
def FX_need_name : List Dv → Option (Rs Dv) := runE 1 BX_need_name
set_option maxHeartbeats 4000000 in
theorem fx_need_name {P : Program} {w : World} {K : PySem.W.Frag} {mg : Str → Option Value} {base : Heap} {f : Addr} {fd : FuncData} (Fn : Fun K "need_name" "need_name" s_need_name f fd) (h_is_name : Has P w K mg base "is_name" 3 ["thing"] F_is_name) {cls : Nat → Addr} {CJ : Addr} (xa : XAll K 7 cls CJ) (m_NoName : mg "NoName" = some (.ref (cls 0))) :
    FnOk P w K mg base (CXE P w) 4 f fd ["thing"] (spE K FX_need_name 1) :=
  fn_okE (k := 3) ["thing"] ["thing"] BX_need_name (by kernel_rfl) (by kernel_rfl) Fn sc_need_name fun cdv A outer s H E hr => (fss_one (fs_if (ft_not (ft_val (fe_callH (k' := 3) 3 ["thing"] F_is_name h_is_name hr (by decide) (glb (by kernel_rfl)) (fa_cons (fe_lv 0) fa_nil)))) (fss_one (fs_raise 0 (xa.xc 0 (by decide)) (by kernel_rfl) m_NoName rfl rfl (glb (by kernel_rfl)) fe_str)) fss_nil))
def B_is_rule : FnS := (fSeq (fIfS (bNot (fB (f1 (isiD tbStr) (fVar 0)))) (fRet (fC (.bl false))) (fun ρ => some (.nx ρ))) (fSeq (fIfS (fB (fM (strB Txt.startswith) (fVar 0) (aCons (fC (.str "*.")) aNil))) (fRet (fCall F_is_name 1 (aCons (fCut (fVar 0) (oSome (fC (.int 2))) oNone) aNil))) (fun ρ => some (.nx ρ))) (fSeq (fIfS (fB (fM (strB Txt.startswith) (fVar 0) (aCons (fC (.str "!")) aNil))) (fRet (vAnd (f2 inD (fC (.str ".")) (fVar 0)) (fCall F_is_name 1 (aCons (fCut (fVar 0) (oSome (fC (.int 1))) oNone) aNil)))) (fun ρ => some (.nx ρ))) (fRet (fCall F_is_name 1 (aCons (fVar 0) aNil))))))
def F_is_rule : List Dv → Option (Rs Dv) := runF 1 B_is_rule
set_option maxHeartbeats 4000000 in
theorem fn_is_rule {P : Program} {w : World} {K : PySem.W.Frag} {mg : Str → Option Value} {base : Heap} {f : Addr} {fd : FuncData} (Fn : Fun K "is_rule" "is_rule" s_is_rule f fd) (h_is_name : Has P w K mg base "is_name" 3 ["thing"] F_is_name) (m_isinstance : mg "isinstance" = none) (m_str : mg "str" = none) :
    FnOk P w K mg base CX0 4 f fd ["thing"] (spF K F_is_rule 1) :=
  fn_ok2 (k := 3) ["thing"] ["thing"] B_is_rule (by kernel_rfl) (by kernel_rfl) Fn sc_is_rule fun cdv A outer s H E hr => (fss_cons (fs_if (ft_not (ft_val (fe_isi (T := "str") kit_str bt_str (by decide +kernel) (by kernel_rfl) (glb (by kernel_rfl)) m_isinstance (glb (by kernel_rfl)) m_str (fe_lv 0)))) (fss_one (fs_ret fe_bl)) fss_nil) (fss_cons (fs_if (ft_val (fe_strM PySem.F.slot_str_startswith PySem.F.type_str_startswith mt_sw g_strB (fe_lv 0) (fa_cons fe_str fa_nil))) (fss_one (fs_ret (fe_callH (k' := 3) 3 ["thing"] F_is_name h_is_name hr (by decide) (glb (by kernel_rfl)) (fa_cons (fe_cut (fe_lv 0) (fo_some fe_int) fo_none) fa_nil)))) fss_nil) (fss_cons (fs_if (ft_val (fe_strM PySem.F.slot_str_startswith PySem.F.type_str_startswith mt_sw g_strB (fe_lv 0) (fa_cons fe_str fa_nil))) (fss_one (fs_ret (fe_and (fe_cmp o_in g_in fe_str (fe_lv 0) (by kernel_rfl)) (fe_one (fe_callH (k' := 3) 3 ["thing"] F_is_name h_is_name hr (by decide) (glb (by kernel_rfl)) (fa_cons (fe_cut (fe_lv 0) (fo_some fe_int) fo_none) fa_nil)))))) fss_nil) (fss_one (fs_ret (fe_callH (k' := 3) 3 ["thing"] F_is_name h_is_name hr (by decide) (glb (by kernel_rfl)) (fa_cons (fe_lv 0) fa_nil)))))))
def B_is_table : FnS := (fSeq (fIfS (bOr (bNot (fB (f1 (isiD tbTup) (fVar 0)))) (fB (f2 gtD (fB1 lenD (aCons (fVar 0) aNil)) (fC (.int 8))))) (fRet (fC (.bl false))) (fun ρ => some (.nx ρ))) (fSeq (fIfS (bNot (fB (fB1 allD (aCons (fComp [] (iSeq (fVar 0)) none (fCall F_is_rule 1 (aCons (fVar 0) aNil))) aNil)))) (fRet (fC (.bl false))) (fun ρ => some (.nx ρ))) (fRet (fB1 allD (aCons (fComp [("thing", 0)] (fun ρ => bnd ((aCons (fC (.int 1)) (aCons (fB1 lenD (aCons (fVar 0) aNil)) aNil)) ρ) rng2) none (f2 ltX (f2 ixD (fVar 1) (f2 subD (fVar 0) (fC (.int 1)))) (f2 ixD (fVar 1) (fVar 0)))) aNil)))))
def F_is_table : List Dv → Option (Rs Dv) := runF 1 B_is_table
set_option maxHeartbeats 4000000 in
theorem fn_is_table {P : Program} {w : World} {K : PySem.W.Frag} {mg : Str → Option Value} {base : Heap} {f : Addr} {fd : FuncData} (Fn : Fun K "is_table" "is_table" s_is_table f fd) (h_is_rule : Has P w K mg base "is_rule" 4 ["thing"] F_is_rule) (m_all : mg "all" = none) (m_isinstance : mg "isinstance" = none) (m_len : mg "len" = none) (m_range : mg "range" = none) (m_tuple : mg "tuple" = none) {t_MOST_RULES : Tok} (m_MOST_RULES : mg "MOST_RULES" = some (.int 8 t_MOST_RULES)) :
    FnOk P w K mg base CX0 5 f fd ["thing"] (spF K F_is_table 1) :=
  fn_ok2 (k := 4) ["thing"] ["thing"] B_is_table (by kernel_rfl) (by kernel_rfl) Fn sc_is_table fun cdv A outer s H E hr => (fss_cons (fs_if (FW.ft (fw_or (ft_not (ft_val (fe_isi (T := "tuple") kit_tup bt_tuple (by decide +kernel) (by kernel_rfl) (glb (by kernel_rfl)) m_isinstance (glb (by kernel_rfl)) m_tuple (fe_cv 0)))) (fw_or1 (ft_cmp op_gt (g_cmp _) (fe_len (glb (by kernel_rfl)) m_len (fa_cons (fe_cv 0) fa_nil)) (fe_gint (glb (by kernel_rfl)) m_MOST_RULES) (nomark _))))) (fss_one (fs_ret fe_bl)) fss_nil) (fss_cons (fs_if (ft_not (ft_val (fe_all rfl (glb (by kernel_rfl)) m_all (fa_cons (fe_compF (defScope s_is_table) ["thing"] ["part"] [0] [] (by kernel_rfl) (by kernel_rfl) ⟨by kernel_rfl, by decide +kernel, by decide +kernel, by decide +kernel, by decide +kernel⟩ (by kernel_rfl) rfl (back1 _) (FI.toG (fi_seq (fe_cv 0))) (fun _ _ _ _ => fg_name 0 (show (["part"] : List Str).Nodup by decide +kernel) (by kernel_rfl) (.inl (by kernel_rfl)) (.inr (by kernel_rfl))) (fun _ _ _ _ => (fe_callH (k' := 4) 4 ["thing"] F_is_rule h_is_rule hr (by decide) (glb (by kernel_rfl)) (fa_cons (fe_lv 0) fa_nil))) (fun _ _ _ _ => rfl)) fa_nil)))) (fss_one (fs_ret fe_bl)) fss_nil) (fss_one (fs_ret (fe_all rfl (glb (by kernel_rfl)) m_all (fa_cons (fe_compF (defScope s_is_table) ["thing"] ["place"] [0] [("thing", 0)] (by kernel_rfl) (by kernel_rfl) ⟨by kernel_rfl, by decide +kernel, by decide +kernel, by decide +kernel, by decide +kernel⟩ (by kernel_rfl) rfl (back1 _) (FI.toG (fi_range2 (glb (by kernel_rfl)) m_range (fa_cons fe_int (fa_cons (fe_len (glb (by kernel_rfl)) m_len (fa_cons (fe_cv 0) fa_nil)) fa_nil)))) (fun _ _ _ _ => fg_name 0 (show (["place", "thing"] : List Str).Nodup by decide +kernel) (by kernel_rfl) (.inl (by kernel_rfl)) (.inr (by kernel_rfl))) (fun _ _ _ _ => (fe_cmp o_ltX g_ltX (fe_ix (fe_cv 1) (fe_op op_sub g_sub (fe_lv 0) fe_int)) (fe_ix (fe_cv 1) (fe_lv 0)) (nomark _))) (fun _ _ _ _ => rfl)) fa_nil))))))
def BX_need_table : FnS := (fIfS (bNot (fB (fCall F_is_table 1 (aCons (fVar 0) aNil)))) (fRaise 1 (fC (.str "this is no table"))) (fun ρ => some (.nx ρ)))
def FX_need_table : List Dv → Option (Rs Dv) := runE 1 BX_need_table
set_option maxHeartbeats 4000000 in
theorem fx_need_table {P : Program} {w : World} {K : PySem.W.Frag} {mg : Str → Option Value} {base : Heap} {f : Addr} {fd : FuncData} (Fn : Fun K "need_table" "need_table" s_need_table f fd) (h_is_table : Has P w K mg base "is_table" 5 ["thing"] F_is_table) {cls : Nat → Addr} {CJ : Addr} (xa : XAll K 7 cls CJ) (m_NoTable : mg "NoTable" = some (.ref (cls 1))) :
    FnOk P w K mg base (CXE P w) 6 f fd ["thing"] (spE K FX_need_table 1) :=
  fn_okE (k := 5) ["thing"] ["thing"] BX_need_table (by kernel_rfl) (by kernel_rfl) Fn sc_need_table fun cdv A outer s H E hr => (fss_one (fs_if (ft_not (ft_val (fe_callH (k' := 5) 5 ["thing"] F_is_table h_is_table hr (by decide) (glb (by kernel_rfl)) (fa_cons (fe_lv 0) fa_nil)))) (fss_one (fs_raise 1 (xa.xc 1 (by decide)) (by kernel_rfl) m_NoTable rfl rfl (glb (by kernel_rfl)) fe_str)) fss_nil))
def BX_open_end : FnS := (fSeq (fDrop (fCallE FX_need_table 1 (aCons (fVar 0) aNil))) (fSeq (fDrop (fCallE FX_need_name 1 (aCons (fVar 1) aNil))) (fRet (fCall F_find_open_end 2 (aCons (fVar 0) (aCons (fVar 1) aNil))))))
def FX_open_end : List Dv → Option (Rs Dv) := runE 2 BX_open_end
set_option maxHeartbeats 4000000 in
theorem fx_open_end {P : Program} {w : World} {K : PySem.W.Frag} {mg : Str → Option Value} {base : Heap} {f : Addr} {fd : FuncData} (Fn : Fun K "open_end" "open_end" s_open_end f fd) (h_find_open_end : Has P w K mg base "find_open_end" 3 ["table", "name"] F_find_open_end) (hx_need_name : HasE P w K mg base "need_name" 4 ["thing"] FX_need_name) (hx_need_table : HasE P w K mg base "need_table" 6 ["thing"] FX_need_table) :
    FnOk P w K mg base (CXE P w) 7 f fd ["table", "name"] (spE K FX_open_end 2) :=
  fn_okE (k := 6) ["table", "name"] ["table", "name"] BX_open_end (by kernel_rfl) (by kernel_rfl) Fn sc_open_end fun cdv A outer s H E hr => (fss_cons (fs_expr (fe_callE (k' := 6) 6 ["thing"] FX_need_table hx_need_table hr (by decide) rfl (glb (by kernel_rfl)) (fa_cons (fe_lv 0) fa_nil))) (fss_cons (fs_expr (fe_callE (k' := 6) 4 ["thing"] FX_need_name hx_need_name hr (by decide) rfl (glb (by kernel_rfl)) (fa_cons (fe_lv 1) fa_nil))) (fss_one (fs_ret (fe_callH (k' := 6) 3 ["table", "name"] F_find_open_end h_find_open_end hr (by decide) (glb (by kernel_rfl)) (fa_cons (fe_lv 0) (fa_cons (fe_lv 1) fa_nil)))))))
def B_find_own_end : FnS := (fSeq (fSet 2 (fCall F_find_open_end 2 (aCons (fVar 0) (aCons (fVar 1) aNil)))) (fSeq (fSet 3 (fCall F_ends_longest_first 1 (aCons (fVar 1) aNil))) (fSeq (fSet 4 (fML idxD (fVar 3) (aCons (fVar 2) aNil))) (fSeq (fIfS (fB (f2 eqX (fVar 4) (fC (.int 0)))) (fRet (fC .non)) (fun ρ => some (.nx ρ))) (fRet (f2 ixD (fVar 3) (f2 subD (fVar 4) (fC (.int 1)))))))))
def F_find_own_end : List Dv → Option (Rs Dv) := runF 5 B_find_own_end
set_option maxHeartbeats 4000000 in
theorem fn_find_own_end {P : Program} {w : World} {K : PySem.W.Frag} {mg : Str → Option Value} {base : Heap} {f : Addr} {fd : FuncData} (Fn : Fun K "find_own_end" "find_own_end" s_find_own_end f fd) (h_ends_longest_first : Has P w K mg base "ends_longest_first" 1 ["name"] F_ends_longest_first) (h_find_open_end : Has P w K mg base "find_open_end" 3 ["table", "name"] F_find_open_end) :
    FnOk P w K mg base CX0 4 f fd ["table", "name"] (spF K F_find_own_end 2) :=
  fn_ok2 (k := 3) ["table", "name", "end", "ends", "place"] ["table", "name"] B_find_own_end (by kernel_rfl) (by kernel_rfl) Fn sc_find_own_end fun cdv A outer s H E hr => (fss_cons (fs_set 2 sc_find_own_end.nd (by kernel_rfl) (.inl (by kernel_rfl)) (fe_callH (k' := 3) 3 ["table", "name"] F_find_open_end h_find_open_end hr (by decide) (glb (by kernel_rfl)) (fa_cons (fe_lv 0) (fa_cons (fe_lv 1) fa_nil)))) (fss_cons (fs_set 3 sc_find_own_end.nd (by kernel_rfl) (.inl (by kernel_rfl)) (fe_callH (k' := 3) 1 ["name"] F_ends_longest_first h_ends_longest_first hr (by decide) (glb (by kernel_rfl)) (fa_cons (fe_lv 1) fa_nil))) (fss_cons (fs_set 4 sc_find_own_end.nd (by kernel_rfl) (.inl (by kernel_rfl)) (fe_index (fe_lv 3) (fa_cons (fe_lv 2) fa_nil))) (fss_cons (fs_if (ft_cmp (o_eqX hr.units) g_eqX (fe_lv 4) fe_int (nomark _)) (fss_one (fs_ret fe_non)) fss_nil) (fss_one (fs_ret (fe_ix (fe_lv 3) (fe_op op_sub g_sub (fe_lv 4) fe_int))))))))
def BX_own_end : FnS := (fSeq (fDrop (fCallE FX_need_table 1 (aCons (fVar 0) aNil))) (fSeq (fDrop (fCallE FX_need_name 1 (aCons (fVar 1) aNil))) (fRet (fCall F_find_own_end 2 (aCons (fVar 0) (aCons (fVar 1) aNil))))))
def FX_own_end : List Dv → Option (Rs Dv) := runE 2 BX_own_end
set_option maxHeartbeats 4000000 in
theorem fx_own_end {P : Program} {w : World} {K : PySem.W.Frag} {mg : Str → Option Value} {base : Heap} {f : Addr} {fd : FuncData} (Fn : Fun K "own_end" "own_end" s_own_end f fd) (h_find_own_end : Has P w K mg base "find_own_end" 4 ["table", "name"] F_find_own_end) (hx_need_name : HasE P w K mg base "need_name" 4 ["thing"] FX_need_name) (hx_need_table : HasE P w K mg base "need_table" 6 ["thing"] FX_need_table) :
    FnOk P w K mg base (CXE P w) 7 f fd ["table", "name"] (spE K FX_own_end 2) :=
  fn_okE (k := 6) ["table", "name"] ["table", "name"] BX_own_end (by kernel_rfl) (by kernel_rfl) Fn sc_own_end fun cdv A outer s H E hr => (fss_cons (fs_expr (fe_callE (k' := 6) 6 ["thing"] FX_need_table hx_need_table hr (by decide) rfl (glb (by kernel_rfl)) (fa_cons (fe_lv 0) fa_nil))) (fss_cons (fs_expr (fe_callE (k' := 6) 4 ["thing"] FX_need_name hx_need_name hr (by decide) rfl (glb (by kernel_rfl)) (fa_cons (fe_lv 1) fa_nil))) (fss_one (fs_ret (fe_callH (k' := 6) 4 ["table", "name"] F_find_own_end h_find_own_end hr (by decide) (glb (by kernel_rfl)) (fa_cons (fe_lv 0) (fa_cons (fe_lv 1) fa_nil)))))))
def B__law_told : FnS := (fTry 7 3 4 (fIf (fB (f2 eqX (fVar 0) (fC (.int 0)))) (fCallE FX_open_end 2 (aCons (fVar 1) (aCons (fVar 2) aNil))) (fCallE FX_own_end 2 (aCons (fVar 1) (aCons (fVar 2) aNil)))) (fCall FM__law_refused 1 (aCons (fVar 3) aNil)))
def F__law_told : List Dv → Option (Rs Dv) := runF 4 B__law_told
set_option maxHeartbeats 4000000 in
theorem fn__law_told {P : Program} {w : World} {K : PySem.W.Frag} {mg : Str → Option Value} {base : Heap} {f : Addr} {fd : FuncData} (Fn : Fun K "_law_told" "_law_told" s__law_told f fd) (hm__law_refused : HasM P w K mg base "_law_refused" 1 ["_law_e"] FM__law_refused) (hx_open_end : HasE P w K mg base "open_end" 7 ["table", "name"] FX_open_end) (hx_own_end : HasE P w K mg base "own_end" 7 ["table", "name"] FX_own_end) {cls : Nat → Addr} {CJ : Addr} (xa : XAll K 7 cls CJ) (m_JarError : mg "JarError" = some (.ref CJ)) :
    FnOk P w K mg base CX0 8 f fd ["_law_way", "_law_table_here", "_law_name_here"] (spF K F__law_told 3) :=
  fn_ok2 (k := 7) ["_law_way", "_law_table_here", "_law_name_here", "_law_e"] ["_law_way", "_law_table_here", "_law_name_here"] B__law_told (by kernel_rfl) (by kernel_rfl) Fn sc__law_told fun cdv A outer s H E hr => (fss_one (fs_try 7 3 4 rfl rfl rfl (glb (by kernel_rfl)) m_JarError xa.exJ xa.xk sc__law_told.nd (by kernel_rfl) (by kernel_rfl) rfl (fun pl E' => (fe_if (ft_cmp (o_eqX hr.units) g_eqX (fe_lv 0) fe_int (nomark _)) (fe_callE (k' := 7) 7 ["table", "name"] FX_open_end hx_open_end hr (by decide) rfl (glb (by kernel_rfl)) (fa_cons (fe_lv 1) (fa_cons (fe_lv 2) fa_nil))) (fe_callE (k' := 7) 7 ["table", "name"] FX_own_end hx_own_end hr (by decide) rfl (glb (by kernel_rfl)) (fa_cons (fe_lv 1) (fa_cons (fe_lv 2) fa_nil))))) (fun pl e => (fe_callM (k' := 7) 1 ["_law_e"] FM__law_refused hm__law_refused ⟨hr.dp, hr.un⟩ (by decide) (glb (by kernel_rfl)) (fa_cons (fe_lv 3) fa_nil)))))
def v_law_0 : FnE := (fCall F__law_table 2 (aCons (fVar 0) (aCons (fC (.int 0)) aNil)))
def v_law_1 : FnE := (fCall F__law_drawn 3 (aCons (fVar 0) (aCons (fC (.int 10)) (aCons (f2 addT (fB1 lenD (aCons (fVar 1) aNil)) (fC (.int 1))) aNil))))
def v_law_2 : FnE := (fLst (aCons (fC (.str "*.uk")) (aCons (fC (.str "!uk")) (aCons (fC (.str "!a.b")) (aCons (fC (.str "*")) (aCons (fC (.str "*.")) (aCons (fC (.str "!")) (aCons (fC (.str "*.*.b")) (aCons (fC (.str "b.1")) (aCons (fC (.str "zz")) (aCons (fC (.str "")) (aCons (fC .non) (aCons (fC (.int 1)) (aCons (fC (.str "!*.b")) (aCons (fC (.str "**.b")) aNil)))))))))))))))
def v_law_3 : FnE := (f2 ixD (fVar 3) (fCall F__law_drawn 3 (aCons (fVar 0) (aCons (fC (.int 11)) (aCons (fC (.int 14)) aNil)))))
def v_law_4 : FnE := (fLst (aCons (fCall F_is_rule 1 (aCons (fVar 6) aNil)) (aCons (fCall F_is_table 1 (aCons (fVar 6) aNil)) aNil)))
def c_law_0 : FnB := (fB (f2 neX (fVar 7) (fLst (aCons (fCall F__law_is_rule 1 (aCons (fVar 6) aNil)) (aCons (fCall F__law_is_table 1 (aCons (fVar 6) aNil)) aNil)))))
def c_law_1 : FnB := (bAnd (bNot (fB (f2 ixD (fVar 7) (fC (.int 1))))) (fB (f2 neX (fComp [("_law_thing", 6)] (fun ρ => bnd ((aCons (fC (.int 2)) aNil) ρ) rng1) none (fCall F__law_told 3 (aCons (fVar 0) (aCons (fVar 1) (aCons (fC .non) aNil))))) (f2 mulL (fLst (aCons (fTup (aCons (fC (.str "refused")) (aCons (fC (.int 1)) aNil))) aNil)) (fC (.int 2))))))
def v_law_5 : FnE := (fCall F__law_name 2 (aCons (fVar 0) (aCons (f2 addT (fC (.int 20)) (fVar 8)) aNil)))
def v_law_6 : FnE := (fIf (fB (f2 ixD (fVar 7) (fC (.int 1)))) (fLst (aCons (fCall F__law_open 2 (aCons (fVar 6) (aCons (fVar 9) aNil))) (aCons (fCall F__law_own 2 (aCons (fVar 6) (aCons (fVar 9) aNil))) aNil))) (f2 mulL (fLst (aCons (fTup (aCons (fC (.str "refused")) (aCons (fC (.int 1)) aNil))) aNil)) (fC (.int 2))))
def c_law_2 : FnB := (fB (f2 neX (fComp [("_law_thing", 6), ("_law_name_here", 9)] (fun ρ => bnd ((aCons (fC (.int 2)) aNil) ρ) rng1) none (fCall F__law_told 3 (aCons (fVar 0) (aCons (fVar 1) (aCons (fVar 2) aNil))))) (fVar 10)))
def b_law_0 : FnS := (fSeq (fSet 9 v_law_5) (fSeq (fSet 10 v_law_6) (fIfS c_law_2 (fRet (fC (.bl false))) (fun ρ => some (.nx ρ)))))
def b_law_1 : FnS := (fSeq (fSet 7 v_law_4) (fSeq (fIfS c_law_0 (fRet (fC (.bl false))) (fun ρ => some (.nx ρ))) (fSeq (fIfS c_law_1 (fRet (fC (.bl false))) (fun ρ => some (.nx ρ))) (fFor 8 [8, 9, 10] (fun ρ => bnd ((aCons (fC (.int 3)) aNil) ρ) rng1) b_law_0))))
def c_law_3 : FnB := (fB (f2 neX (fLst (aCons (fCall F_is_rule 1 (aCons (fVar 11) aNil)) (aCons (fCall F_is_table 1 (aCons (fTup (aCons (fVar 11) aNil)) aNil)) aNil))) (fLst (aCons (fCall F__law_is_rule 1 (aCons (fVar 11) aNil)) (aCons (fCall F__law_is_table 1 (aCons (fTup (aCons (fVar 11) aNil)) aNil)) aNil)))))
def b_law_2 : FnS := (fIfS c_law_3 (fRet (fC (.bl false))) (fun ρ => some (.nx ρ)))
def v_law_7 : FnE := (f2 ixD (fLst (aCons (fC (.str "")) (aCons (fC (.str "a..b")) (aCons (fC .non) (aCons (fC (.str "A.b")) (aCons (fC (.int 1)) (aCons (fTup (aCons (fC (.str "a")) aNil)) aNil))))))) (fCall F__law_drawn 3 (aCons (fVar 0) (aCons (fC (.int 30)) (aCons (fC (.int 6)) aNil)))))
def r_law_0 : FnE := (f2 eqX (fComp [("_law_table_here", 1), ("_law_bad", 12)] (fun ρ => bnd ((aCons (fC (.int 2)) aNil) ρ) rng1) none (fCall F__law_told 3 (aCons (fVar 0) (aCons (fVar 1) (aCons (fVar 2) aNil))))) (f2 mulL (fLst (aCons (fTup (aCons (fC (.str "refused")) (aCons (fC (.int 0)) aNil))) aNil)) (fC (.int 2))))
def B_law : FnS := (fSeq (fSet 1 v_law_0) (fSeq (fSet 2 v_law_1) (fSeq (fSet 3 v_law_2) (fSeq (fSet 4 v_law_3) (fOwn 5 (aCons (fVar 1) (aCons (f2 addT (f2 addT (fCutT (fVar 1) oNone (oSome (fVar 2))) (fTup (aCons (fVar 4) aNil))) (fCutT (fVar 1) (oSome (f2 addT (fVar 2) (fC (.int 1)))) oNone)) (aCons (f2 addT (f2 addT (fCutT (fVar 1) oNone (oSome (fVar 2))) (fTup (aCons (fVar 4) aNil))) (fCutT (fVar 1) (oSome (fVar 2)) oNone)) (aCons (fBack (fVar 1)) (aCons (fB1 listD (aCons (fVar 1) aNil)) aNil))))) (oSeq (oIf (fB (f1 (isiD tbStr) (fVar 4))) (oApp (fB1 tupleD (aCons (fB1 sortSet (aCons (f2 addT (fVar 1) (fTup (aCons (fVar 4) aNil))) aNil)) aNil))) oNil) (oEnd 5 (fSeq (fFor 6 [6, 7, 8, 9, 10] (iSeq (f2 addT (fVar 5) (fLst (aCons (fC .non) (aCons (fTup aNil) (aCons (f2 addT (fVar 1) (fVar 1)) (aCons (fVar 4) (aCons (fTup (aCons (fC (.str "a")) (aCons (fC (.str "b")) (aCons (fC (.str "c")) (aCons (fC (.str "d")) (aCons (fC (.str "e")) (aCons (fC (.str "f")) (aCons (fC (.str "g")) (aCons (fC (.str "h")) (aCons (fC (.str "i")) aNil)))))))))) aNil)))))))) b_law_1) (fSeq (fFor 11 [11] (iSeq (f2 addT (fVar 3) (fLst (aCons (fC (.str "*.A")) (aCons (fC (.str "*.Ak")) (aCons (fC (.str "!A")) (aCons (fC (.str "*.-b")) (aCons (fC (.str "!-b")) (aCons (fC (.str "*.b.")) (aCons (fC (.str "*.b")) (aCons (fC (.str "*.ab")) (aCons (fC (.str "!ab")) aNil)))))))))))) b_law_2) (fSeq (fSet 12 v_law_7) (fRet r_law_0)))))))))))
def F_law : List Dv → Option (Rs Dv) := runF 13 B_law
set_option maxHeartbeats 4000000 in
theorem fn_law {P : Program} {w : World} {K : PySem.W.Frag} {mg : Str → Option Value} {base : Heap} {f : Addr} {fd : FuncData} (Fn : Fun K "law" "law" s_law f fd) (h__law_drawn : Has P w K mg base "_law_drawn" 2 ["_law_script", "_law_k", "_law_many"] F__law_drawn) (h__law_is_rule : Has P w K mg base "_law_is_rule" 4 ["_law_thing"] F__law_is_rule) (h__law_is_table : Has P w K mg base "_law_is_table" 5 ["_law_thing"] F__law_is_table) (h__law_name : Has P w K mg base "_law_name" 3 ["_law_script", "_law_at"] F__law_name) (h__law_open : Has P w K mg base "_law_open" 2 ["_law_table_here", "_law_name_here"] F__law_open) (h__law_own : Has P w K mg base "_law_own" 3 ["_law_table_here", "_law_name_here"] F__law_own) (h__law_table : Has P w K mg base "_law_table" 3 ["_law_script", "_law_at"] F__law_table) (h__law_told : Has P w K mg base "_law_told" 8 ["_law_way", "_law_table_here", "_law_name_here"] F__law_told) (h_is_rule : Has P w K mg base "is_rule" 4 ["thing"] F_is_rule) (h_is_table : Has P w K mg base "is_table" 5 ["thing"] F_is_table) (m_isinstance : mg "isinstance" = none) (m_len : mg "len" = none) (m_list : mg "list" = none) (m_range : mg "range" = none) (m_set : mg "set" = none) (m_sorted : mg "sorted" = none) (m_str : mg "str" = none) (m_tuple : mg "tuple" = none) :
    FnOk P w K mg base CX0 9 f fd ["_law_script"] (spF K F_law 1) :=
  fn_ok2 (k := 8) ["_law_script", "_law_table_here", "_law_at", "_law_some", "_law_odd", "_law_things", "_law_thing", "_law_told_here", "_law_k", "_law_name_here", "_law_due", "_law_rule", "_law_bad"] ["_law_script"] B_law (by kernel_rfl) (by kernel_rfl) Fn sc_law fun cdv A outer s H E hr => (fss_cons (fs_set 1 sc_law.nd (by kernel_rfl) (.inr (by kernel_rfl)) (fe_callH (k' := 8) 3 ["_law_script", "_law_at"] F__law_table h__law_table hr (by decide) (glb (by kernel_rfl)) (fa_cons (fe_lv 0) (fa_cons fe_int fa_nil)))) (fss_cons (fs_set 2 sc_law.nd (by kernel_rfl) (.inl (by kernel_rfl)) (fe_callH (k' := 8) 2 ["_law_script", "_law_k", "_law_many"] F__law_drawn h__law_drawn hr (by decide) (glb (by kernel_rfl)) (fa_cons (fe_lv 0) (fa_cons fe_int (fa_cons (fe_op o_addT g_addT (fe_len (glb (by kernel_rfl)) m_len (fa_cons (fe_cv 1) fa_nil)) fe_int) fa_nil))))) (fss_cons (fs_set 3 sc_law.nd (by kernel_rfl) (.inl (by kernel_rfl)) (fe_lst (fa_cons fe_str (fa_cons fe_str (fa_cons fe_str (fa_cons fe_str (fa_cons fe_str (fa_cons fe_str (fa_cons fe_str (fa_cons fe_str (fa_cons fe_str (fa_cons fe_str (fa_cons fe_non (fa_cons fe_int (fa_cons fe_str (fa_cons fe_str fa_nil)))))))))))))))) (fss_cons (fs_set 4 sc_law.nd (by kernel_rfl) (.inl (by kernel_rfl)) (fe_ix (fe_lv 3) (fe_callH (k' := 8) 2 ["_law_script", "_law_k", "_law_many"] F__law_drawn h__law_drawn hr (by decide) (glb (by kernel_rfl)) (fa_cons (fe_lv 0) (fa_cons fe_int (fa_cons fe_int fa_nil)))))) (fss_own (i := 5) sc_law.nd (by kernel_rfl) (.inl (by kernel_rfl)) (fa_cons (fe_cv 1) (fa_cons (fe_op o_addT g_addT (fe_op o_addT g_addT (fe_cutT (fe_cv 1) fo_none (fo_some (fe_lv 2))) (fe_tup (fa_cons (fe_lv 4) fa_nil))) (fe_cutT (fe_cv 1) (fo_some (fe_op o_addT g_addT (fe_lv 2) fe_int)) fo_none)) (fa_cons (fe_op o_addT g_addT (fe_op o_addT g_addT (fe_cutT (fe_cv 1) fo_none (fo_some (fe_lv 2))) (fe_tup (fa_cons (fe_lv 4) fa_nil))) (fe_cutT (fe_cv 1) (fo_some (fe_lv 2)) fo_none)) (fa_cons (fe_back (fe_cv 1) (fe_neg fe_int)) (fa_cons (fe_list (glb (by kernel_rfl)) m_list (fa_cons (fe_cv 1) fa_nil)) fa_nil))))) (fos_cons (fo_if rfl (ft_val (fe_isi (T := "str") kit_str bt_str (by decide +kernel) (by kernel_rfl) (glb (by kernel_rfl)) m_isinstance (glb (by kernel_rfl)) m_str (fe_lv 4))) (fos_one (fo_app rfl (pe_var (by kernel_rfl) (.inl (by kernel_rfl)) (by kernel_rfl) (by kernel_rfl)) (fe_tuple (glb (by kernel_rfl)) m_tuple (fa_cons (fe_sortSet rfl (glb (by kernel_rfl)) m_sorted (glb (by kernel_rfl)) m_set (fa_cons (fe_op o_addT g_addT (fe_cv 1) (fe_tup (fa_cons (fe_lv 4) fa_nil))) fa_nil)) fa_nil)))) fos_nil) (fos_end (fss_cons (fs_for 6 [6, 7, 8, 9, 10] PassesOwn.never rfl (fi_seq (fe_op o_addT g_addT (fe_lv 5) (fe_lst (fa_cons fe_non (fa_cons (fe_tup fa_nil) (fa_cons (fe_op o_addT g_addT (fe_cv 1) (fe_cv 1)) (fa_cons (fe_lv 4) (fa_cons (fe_tup (fa_cons fe_str (fa_cons fe_str (fa_cons fe_str (fa_cons fe_str (fa_cons fe_str (fa_cons fe_str (fa_cons fe_str (fa_cons fe_str (fa_cons fe_str fa_nil)))))))))) fa_nil)))))))) (pg_name (i := 6) sc_law.nd (by kernel_rfl) (.inr (by kernel_rfl)) (.inl rfl)) (fss_cons (fs_set 7 sc_law.nd (by kernel_rfl) (.inl (by kernel_rfl)) (fe_lst (fa_cons (fe_callH (k' := 8) 4 ["thing"] F_is_rule h_is_rule hr (by decide) (glb (by kernel_rfl)) (fa_cons (fe_cv 6) fa_nil)) (fa_cons (fe_callH (k' := 8) 5 ["thing"] F_is_table h_is_table hr (by decide) (glb (by kernel_rfl)) (fa_cons (fe_cv 6) fa_nil)) fa_nil)))) (fss_cons (fs_if (ft_cmp (o_neX hr.units) g_neX (fe_lv 7) (fe_lst (fa_cons (fe_callH (k' := 8) 4 ["_law_thing"] F__law_is_rule h__law_is_rule hr (by decide) (glb (by kernel_rfl)) (fa_cons (fe_cv 6) fa_nil)) (fa_cons (fe_callH (k' := 8) 5 ["_law_thing"] F__law_is_table h__law_is_table hr (by decide) (glb (by kernel_rfl)) (fa_cons (fe_cv 6) fa_nil)) fa_nil))) (nomark _)) (fss_one (fs_ret fe_bl)) fss_nil) (fss_cons (fs_if (FW.ft (fw_and (ft_not (ft_val (fe_ix (fe_lv 7) fe_int))) (fw_and1 (ft_cmp (o_neX hr.units) g_neX (fe_compF (defScope s_law) ["_law_script", "_law_table_here", "_law_at", "_law_some", "_law_odd", "_law_things", "_law_thing", "_law_told_here", "_law_k", "_law_name_here", "_law_due", "_law_rule", "_law_bad"] ["_law_way"] [0] [("_law_thing", 6)] (by kernel_rfl) (by kernel_rfl) ⟨by kernel_rfl, by decide +kernel, by decide +kernel, by decide +kernel, by decide +kernel⟩ (by kernel_rfl) rfl (back1 _) (FI.toG (fi_range1 (glb (by kernel_rfl)) m_range (fa_cons fe_int fa_nil))) (fun _ _ _ _ => fg_name 0 (show (["_law_way", "_law_thing"] : List Str).Nodup by decide +kernel) (by kernel_rfl) (.inl (by kernel_rfl)) (.inr (by kernel_rfl))) (fun _ _ _ _ => (fe_callH (k' := 8) 8 ["_law_way", "_law_table_here", "_law_name_here"] F__law_told h__law_told hr (by decide) (glb (by kernel_rfl)) (fa_cons (fe_lv 0) (fa_cons (fe_cv 1) (fa_cons fe_non fa_nil))))) (fun _ _ _ _ => rfl)) (fe_op o_mulL g_mulL (fe_lst (fa_cons (fe_tup (fa_cons fe_str (fa_cons fe_int fa_nil))) fa_nil)) fe_int) (nomark _))))) (fss_one (fs_ret fe_bl)) fss_nil) (fss_one (fs_for 8 [8, 9, 10] PassesOwn.never rfl (fi_range1 (glb (by kernel_rfl)) m_range (fa_cons fe_int fa_nil)) (pg_name (i := 8) sc_law.nd (by kernel_rfl) (.inl (by kernel_rfl)) (.inl rfl)) (fss_cons (fs_set 9 sc_law.nd (by kernel_rfl) (.inr (by kernel_rfl)) (fe_callH (k' := 8) 3 ["_law_script", "_law_at"] F__law_name h__law_name hr (by decide) (glb (by kernel_rfl)) (fa_cons (fe_lv 0) (fa_cons (fe_op o_addT g_addT fe_int (fe_lv 8)) fa_nil)))) (fss_cons (fs_set 10 sc_law.nd (by kernel_rfl) (.inl (by kernel_rfl)) (fe_if (ft_val (fe_ix (fe_lv 7) fe_int)) (fe_lst (fa_cons (fe_callH (k' := 8) 2 ["_law_table_here", "_law_name_here"] F__law_open h__law_open hr (by decide) (glb (by kernel_rfl)) (fa_cons (fe_cv 6) (fa_cons (fe_cv 9) fa_nil))) (fa_cons (fe_callH (k' := 8) 3 ["_law_table_here", "_law_name_here"] F__law_own h__law_own hr (by decide) (glb (by kernel_rfl)) (fa_cons (fe_cv 6) (fa_cons (fe_cv 9) fa_nil))) fa_nil))) (fe_op o_mulL g_mulL (fe_lst (fa_cons (fe_tup (fa_cons fe_str (fa_cons fe_int fa_nil))) fa_nil)) fe_int))) (fss_one (fs_if (ft_cmp (o_neX hr.units) g_neX (fe_compF (defScope s_law) ["_law_script", "_law_table_here", "_law_at", "_law_some", "_law_odd", "_law_things", "_law_thing", "_law_told_here", "_law_k", "_law_name_here", "_law_due", "_law_rule", "_law_bad"] ["_law_way"] [0] [("_law_thing", 6), ("_law_name_here", 9)] (by kernel_rfl) (by kernel_rfl) ⟨by kernel_rfl, by decide +kernel, by decide +kernel, by decide +kernel, by decide +kernel⟩ (by kernel_rfl) rfl (back1 _) (FI.toG (fi_range1 (glb (by kernel_rfl)) m_range (fa_cons fe_int fa_nil))) (fun _ _ _ _ => fg_name 0 (show (["_law_way", "_law_thing", "_law_name_here"] : List Str).Nodup by decide +kernel) (by kernel_rfl) (.inl (by kernel_rfl)) (.inr (by kernel_rfl))) (fun _ _ _ _ => (fe_callH (k' := 8) 8 ["_law_way", "_law_table_here", "_law_name_here"] F__law_told h__law_told hr (by decide) (glb (by kernel_rfl)) (fa_cons (fe_lv 0) (fa_cons (fe_cv 1) (fa_cons (fe_cv 2) fa_nil))))) (fun _ _ _ _ => rfl)) (fe_lv 10) (nomark _)) (fss_one (fs_ret fe_bl)) fss_nil)))))))))) (fss_cons (fs_for 11 [11] PassesOwn.never rfl (fi_seq (fe_op o_addT g_addT (fe_lv 3) (fe_lst (fa_cons fe_str (fa_cons fe_str (fa_cons fe_str (fa_cons fe_str (fa_cons fe_str (fa_cons fe_str (fa_cons fe_str (fa_cons fe_str (fa_cons fe_str fa_nil)))))))))))) (pg_name (i := 11) sc_law.nd (by kernel_rfl) (.inl (by kernel_rfl)) (.inl rfl)) (fss_one (fs_if (ft_cmp (o_neX hr.units) g_neX (fe_lst (fa_cons (fe_callH (k' := 8) 4 ["thing"] F_is_rule h_is_rule hr (by decide) (glb (by kernel_rfl)) (fa_cons (fe_lv 11) fa_nil)) (fa_cons (fe_callH (k' := 8) 5 ["thing"] F_is_table h_is_table hr (by decide) (glb (by kernel_rfl)) (fa_cons (fe_tup (fa_cons (fe_lv 11) fa_nil)) fa_nil)) fa_nil))) (fe_lst (fa_cons (fe_callH (k' := 8) 4 ["_law_thing"] F__law_is_rule h__law_is_rule hr (by decide) (glb (by kernel_rfl)) (fa_cons (fe_lv 11) fa_nil)) (fa_cons (fe_callH (k' := 8) 5 ["_law_thing"] F__law_is_table h__law_is_table hr (by decide) (glb (by kernel_rfl)) (fa_cons (fe_tup (fa_cons (fe_lv 11) fa_nil)) fa_nil)) fa_nil))) (nomark _)) (fss_one (fs_ret fe_bl)) fss_nil))) (fss_cons (fs_set 12 sc_law.nd (by kernel_rfl) (.inr (by kernel_rfl)) (fe_ix (fe_lst (fa_cons fe_str (fa_cons fe_str (fa_cons fe_non (fa_cons fe_str (fa_cons fe_int (fa_cons (fe_tup (fa_cons fe_str fa_nil)) fa_nil))))))) (fe_callH (k' := 8) 2 ["_law_script", "_law_k", "_law_many"] F__law_drawn h__law_drawn hr (by decide) (glb (by kernel_rfl)) (fa_cons (fe_lv 0) (fa_cons fe_int (fa_cons fe_int fa_nil)))))) (fss_one (fs_ret (fe_cmp (o_eqX hr.units) g_eqX (fe_compF (defScope s_law) ["_law_script", "_law_table_here", "_law_at", "_law_some", "_law_odd", "_law_things", "_law_thing", "_law_told_here", "_law_k", "_law_name_here", "_law_due", "_law_rule", "_law_bad"] ["_law_way"] [0] [("_law_table_here", 1), ("_law_bad", 12)] (by kernel_rfl) (by kernel_rfl) ⟨by kernel_rfl, by decide +kernel, by decide +kernel, by decide +kernel, by decide +kernel⟩ (by kernel_rfl) rfl (back1 _) (FI.toG (fi_range1 (glb (by kernel_rfl)) m_range (fa_cons fe_int fa_nil))) (fun _ _ _ _ => fg_name 0 (show (["_law_way", "_law_table_here", "_law_bad"] : List Str).Nodup by decide +kernel) (by kernel_rfl) (.inl (by kernel_rfl)) (.inr (by kernel_rfl))) (fun _ _ _ _ => (fe_callH (k' := 8) 8 ["_law_way", "_law_table_here", "_law_name_here"] F__law_told h__law_told hr (by decide) (glb (by kernel_rfl)) (fa_cons (fe_lv 0) (fa_cons (fe_cv 1) (fa_cons (fe_cv 2) fa_nil))))) (fun _ _ _ _ => rfl)) (fe_op o_mulL g_mulL (fe_lst (fa_cons (fe_tup (fa_cons fe_str (fa_cons fe_int fa_nil))) fa_nil)) fe_int) (nomark _))))))))))))))
noncomputable abbrev nsM (K : PySem.W.Frag) (x : Str) : Option (Option Value) := PySem.W.nsIn K mainGlobals x
structure Af (K : PySem.W.Frag) (x : Str) (st : Stmt) (f : Addr) : Prop where
  a : nsM K x = some (some (.ref f))
  F : ∃ fd, Fun K x x st f fd
  k : PySem.W.keepIn K (.ref f) = true
theorem af {K : PySem.W.Frag} {x : Str} {st : Stmt} (f : Addr) (m : String) (t c : Nat) (a : nsM K x = some (some (.ref f))) (l : K.lookup f = some ⟨Value.type "function", none, .func (PySem.W.fnOf x x (defArgs st) (defBody st) (defScope st) .none .none .none (kS m t) none (kR c) .none), #[]⟩) (cc : PySem.W.codeIn K (kR c) x = true) (k : PySem.W.keepIn K (.ref f) = true) : Af K x st f := ⟨a, ⟨_, fun_mk l cc k⟩, k⟩
theorem MG {K : PySem.W.Frag} {h : Heap} {mg : Str → Option Value} {x : Str} {v : Value} (X : K.In h) (G : h.Ns mainGlobals mg) (e : nsM K x = some (some v)) : mg x = some v := PySem.W.mg_of X G e
theorem MN {K : PySem.W.Frag} {h : Heap} {mg : Str → Option Value} {x : Str} (X : K.In h) (G : h.Ns mainGlobals mg) (e : nsM K x = some none) : mg x = none := PySem.W.mg_none_of X G e
theorem all_mk {l : PySem.W.OpenLaw} {w : World} {K : PySem.W.Frag} {h : Heap} {mg : Str → Option Value} {fa : Addr} (X : K.In h) (G : h.Ns mainGlobals mg) (hfa : mg "law" = some (.ref fa))
    {f1 f2 f3 f4 f5 f6 f7 f8 f9 f10 f11 f12 f13 f14 f15 f16 f17 f18 f19 f20 f21 f22 f23 f24 f25 : Addr}
    {f26 : Addr} {od26 an26 : Option Addr} {sl26 : Array (Option Value)} {oc26 kV26 dc26 pm26 cd26 ct26 : Value}
    {C0 C1 C2 C3 C4 C5 C6 CJ : Addr}
    {tk1 tk2 tk3 tk4 tk5 : Tok}
    (A1 : Af K "_law_cell" s__law_cell f1)
    (A2 : Af K "_law_drawn" s__law_drawn f2)
    (A3 : Af K "is_text_of" s_is_text_of f3)
    (A4 : Af K "is_label" s_is_label f4)
    (A5 : Af K "is_name" s_is_name f5)
    (A6 : Af K "_law_is_rule" s__law_is_rule f6)
    (A7 : Af K "_law_is_table" s__law_is_table f7)
    (A8 : Af K "_law_name" s__law_name f8)
    (A9 : Af K "_law_ends" s__law_ends f9)
    (A10 : Af K "_law_open" s__law_open f10)
    (A11 : Af K "_law_own" s__law_own f11)
    (A12 : Af K "_law_table" s__law_table f12)
    (A13 : Af K "_law_refused" s__law_refused f13)
    (A14 : Af K "behind_first_dot" s_behind_first_dot f14)
    (A15 : Af K "ends_longest_first" s_ends_longest_first f15)
    (A16 : Af K "is_told_open" s_is_told_open f16)
    (A17 : Af K "find_open_end" s_find_open_end f17)
    (A18 : Af K "need_name" s_need_name f18)
    (A19 : Af K "is_rule" s_is_rule f19)
    (A20 : Af K "is_table" s_is_table f20)
    (A21 : Af K "need_table" s_need_table f21)
    (A22 : Af K "open_end" s_open_end f22)
    (A23 : Af K "find_own_end" s_find_own_end f23)
    (A24 : Af K "own_end" s_own_end f24)
    (A25 : Af K "_law_told" s__law_told f25)
    (a26 : nsM K "law" = some (some (.ref f26))) (l26 : K.lookup f26 = some ⟨oc26, od26, .func (PySem.W.fnOf "law" "law" (defArgs s_law) (defBody s_law) (defScope s_law) .none kV26 dc26 pm26 an26 cd26 ct26), sl26⟩) (c26 : PySem.W.codeIn K cd26 "law" = true) (k26 : PySem.W.keepIn K (.ref f26) = true)
    (z1 : nsM K "ValueError" = some none)
    (z2 : nsM K "all" = some none)
    (z3 : nsM K "enumerate" = some none)
    (z4 : nsM K "isinstance" = some none)
    (z5 : nsM K "len" = some none)
    (z6 : nsM K "list" = some none)
    (z7 : nsM K "range" = some none)
    (z8 : nsM K "set" = some none)
    (z9 : nsM K "sorted" = some none)
    (z10 : nsM K "str" = some none)
    (z11 : nsM K "tuple" = some none)
    (g1 : nsM K "FIGURES" = some (some (.str (Str.ofString "0123456789") tk1)))
    (g2 : nsM K "LABEL_SIGNS" = some (some (.str (Str.ofString "abcdefghijklmnopqrstuvwxyz0123456789-") tk2)))
    (g3 : nsM K "LONGEST_LABEL" = some (some (.int 8 tk3)))
    (g4 : nsM K "MOST_LABELS" = some (some (.int 5 tk4)))
    (g5 : nsM K "MOST_RULES" = some (some (.int 8 tk5)))
    (n0 : nsM K "NoName" = some (some (.ref C0)))
    (n1 : nsM K "NoTable" = some (some (.ref C1)))
    (n2 : nsM K "NoPath" = some (some (.ref C2)))
    (n3 : nsM K "NoAsk" = some (some (.ref C3)))
    (n4 : nsM K "NoNote" = some (some (.ref C4)))
    (n5 : nsM K "NoJar" = some (some (.ref C5)))
    (n6 : nsM K "NoNumber" = some (some (.ref C6)))
    (nJ : nsM K "JarError" = some (some (.ref CJ)))
    (xb : clsB K [C0, C1, C2, C3, C4, C5, C6] CJ = true) :
    ∃ fd : FuncData, (∀ (s : Shared) (v : Value), BindsTo s fd ⟨[v], []⟩ [("_law_script", v)]) ∧ ∀ base : Heap, K.In base → base.Ns mainGlobals mg → FnOk l.prog w K mg base CX0 9 fa fd ["_law_script"] (spF K F_law 1) := by
  have e := hfa.symm.trans (MG X G a26)
  cases e
  obtain ⟨a1, ⟨_, F1⟩, k1⟩ := A1
  obtain ⟨a2, ⟨_, F2⟩, k2⟩ := A2
  obtain ⟨a3, ⟨_, F3⟩, k3⟩ := A3
  obtain ⟨a4, ⟨_, F4⟩, k4⟩ := A4
  obtain ⟨a5, ⟨_, F5⟩, k5⟩ := A5
  obtain ⟨a6, ⟨_, F6⟩, k6⟩ := A6
  obtain ⟨a7, ⟨_, F7⟩, k7⟩ := A7
  obtain ⟨a8, ⟨_, F8⟩, k8⟩ := A8
  obtain ⟨a9, ⟨_, F9⟩, k9⟩ := A9
  obtain ⟨a10, ⟨_, F10⟩, k10⟩ := A10
  obtain ⟨a11, ⟨_, F11⟩, k11⟩ := A11
  obtain ⟨a12, ⟨_, F12⟩, k12⟩ := A12
  obtain ⟨a13, ⟨_, F13⟩, k13⟩ := A13
  obtain ⟨a14, ⟨_, F14⟩, k14⟩ := A14
  obtain ⟨a15, ⟨_, F15⟩, k15⟩ := A15
  obtain ⟨a16, ⟨_, F16⟩, k16⟩ := A16
  obtain ⟨a17, ⟨_, F17⟩, k17⟩ := A17
  obtain ⟨a18, ⟨_, F18⟩, k18⟩ := A18
  obtain ⟨a19, ⟨_, F19⟩, k19⟩ := A19
  obtain ⟨a20, ⟨_, F20⟩, k20⟩ := A20
  obtain ⟨a21, ⟨_, F21⟩, k21⟩ := A21
  obtain ⟨a22, ⟨_, F22⟩, k22⟩ := A22
  obtain ⟨a23, ⟨_, F23⟩, k23⟩ := A23
  obtain ⟨a24, ⟨_, F24⟩, k24⟩ := A24
  obtain ⟨a25, ⟨_, F25⟩, k25⟩ := A25
  have F26 := fun_mk (st := s_law) l26 c26 k26
  have m_ValueError := MN X G z1
  have m_all := MN X G z2
  have m_enumerate := MN X G z3
  have m_isinstance := MN X G z4
  have m_len := MN X G z5
  have m_list := MN X G z6
  have m_range := MN X G z7
  have m_set := MN X G z8
  have m_sorted := MN X G z9
  have m_str := MN X G z10
  have m_tuple := MN X G z11
  have m_FIGURES := MG X G g1
  have m_LABEL_SIGNS := MG X G g2
  have m_LONGEST_LABEL := MG X G g3
  have m_MOST_LABELS := MG X G g4
  have m_MOST_RULES := MG X G g5
  have xa : XAll K 7 (fun c => [C0, C1, C2, C3, C4, C5, C6].getD c 0) CJ := xall_of rfl (fun c hc => match c, hc with | 0, _ => n0 | 1, _ => n1 | 2, _ => n2 | 3, _ => n3 | 4, _ => n4 | 5, _ => n5 | 6, _ => n6) xb
  have m_NoName := MG X G n0
  have m_NoTable := MG X G n1
  have m_NoPath := MG X G n2
  have m_NoAsk := MG X G n3
  have m_NoNote := MG X G n4
  have m_NoJar := MG X G n5
  have m_NoNumber := MG X G n6
  have m_JarError := MG X G nJ
  refine ⟨PySem.W.fnOf "law" "law" (defArgs s_law) (defBody s_law) (defScope s_law) .none kV26 dc26 pm26 an26 cd26 ct26, fun s v => .of_eq rfl, fun base _ _ => ?_⟩
  have h__law_cell : Has l.prog w K mg base "_law_cell" 1 ["_law_script", "_law_k"] F__law_cell := ⟨_, _, fn__law_cell F1 m_len, MG X G a1, k1, bd__law_cell F1⟩
  have h__law_drawn : Has l.prog w K mg base "_law_drawn" 2 ["_law_script", "_law_k", "_law_many"] F__law_drawn := ⟨_, _, fn__law_drawn F2 h__law_cell, MG X G a2, k2, bd__law_drawn F2⟩
  have h_is_text_of : Has l.prog w K mg base "is_text_of" 1 ["thing", "signs", "least", "most"] F_is_text_of := ⟨_, _, fn_is_text_of F3 m_all m_isinstance m_len m_str, MG X G a3, k3, bd_is_text_of F3⟩
  have h_is_label : Has l.prog w K mg base "is_label" 2 ["thing"] F_is_label := ⟨_, _, fn_is_label F4 h_is_text_of m_LABEL_SIGNS m_LONGEST_LABEL, MG X G a4, k4, bd_is_label F4⟩
  have h_is_name : Has l.prog w K mg base "is_name" 3 ["thing"] F_is_name := ⟨_, _, fn_is_name F5 h_is_label h_is_text_of m_all m_isinstance m_len m_str m_FIGURES m_LONGEST_LABEL m_MOST_LABELS, MG X G a5, k5, bd_is_name F5⟩
  have h__law_is_rule : Has l.prog w K mg base "_law_is_rule" 4 ["_law_thing"] F__law_is_rule := ⟨_, _, fn__law_is_rule F6 h_is_name m_isinstance m_str, MG X G a6, k6, bd__law_is_rule F6⟩
  have h__law_is_table : Has l.prog w K mg base "_law_is_table" 5 ["_law_thing"] F__law_is_table := ⟨_, _, fn__law_is_table F7 h__law_is_rule m_isinstance m_len m_list m_set m_sorted m_tuple, MG X G a7, k7, bd__law_is_table F7⟩
  have h__law_name : Has l.prog w K mg base "_law_name" 3 ["_law_script", "_law_at"] F__law_name := ⟨_, _, fn__law_name F8 h__law_drawn m_len, MG X G a8, k8, bd__law_name F8⟩
  have h__law_ends : Has l.prog w K mg base "_law_ends" 1 ["_law_name_here"] F__law_ends := ⟨_, _, fn__law_ends F9 m_len m_range, MG X G a9, k9, bd__law_ends F9⟩
  have h__law_open : Has l.prog w K mg base "_law_open" 2 ["_law_table_here", "_law_name_here"] F__law_open := ⟨_, _, fn__law_open F10 h__law_ends, MG X G a10, k10, bd__law_open F10⟩
  have h__law_own : Has l.prog w K mg base "_law_own" 3 ["_law_table_here", "_law_name_here"] F__law_own := ⟨_, _, fn__law_own F11 h__law_ends h__law_open m_len, MG X G a11, k11, bd__law_own F11⟩
  have h__law_table : Has l.prog w K mg base "_law_table" 3 ["_law_script", "_law_at"] F__law_table := ⟨_, _, fn__law_table F12 h__law_drawn m_enumerate m_tuple, MG X G a12, k12, bd__law_table F12⟩
  have hm__law_refused : HasM l.prog w K mg base "_law_refused" 1 ["_law_e"] FM__law_refused := ⟨_, _, fm__law_refused F13 m_ValueError m_isinstance xa m_NoAsk m_NoJar m_NoName m_NoNote m_NoNumber m_NoPath m_NoTable, MG X G a13, k13, bd__law_refused F13⟩
  have h_behind_first_dot : Has l.prog w K mg base "behind_first_dot" 1 ["end"] F_behind_first_dot := ⟨_, _, fn_behind_first_dot F14, MG X G a14, k14, bd_behind_first_dot F14⟩
  have h_ends_longest_first : Has l.prog w K mg base "ends_longest_first" 1 ["name"] F_ends_longest_first := ⟨_, _, fn_ends_longest_first F15 m_len m_range, MG X G a15, k15, bd_ends_longest_first F15⟩
  have h_is_told_open : Has l.prog w K mg base "is_told_open" 2 ["table", "end"] F_is_told_open := ⟨_, _, fn_is_told_open F16 h_behind_first_dot, MG X G a16, k16, bd_is_told_open F16⟩
  have h_find_open_end : Has l.prog w K mg base "find_open_end" 3 ["table", "name"] F_find_open_end := ⟨_, _, fn_find_open_end F17 h_behind_first_dot h_ends_longest_first h_is_told_open, MG X G a17, k17, bd_find_open_end F17⟩
  have hx_need_name : HasE l.prog w K mg base "need_name" 4 ["thing"] FX_need_name := ⟨_, _, fx_need_name F18 h_is_name xa m_NoName, MG X G a18, k18, bd_need_name F18⟩
  have h_is_rule : Has l.prog w K mg base "is_rule" 4 ["thing"] F_is_rule := ⟨_, _, fn_is_rule F19 h_is_name m_isinstance m_str, MG X G a19, k19, bd_is_rule F19⟩
  have h_is_table : Has l.prog w K mg base "is_table" 5 ["thing"] F_is_table := ⟨_, _, fn_is_table F20 h_is_rule m_all m_isinstance m_len m_range m_tuple m_MOST_RULES, MG X G a20, k20, bd_is_table F20⟩
  have hx_need_table : HasE l.prog w K mg base "need_table" 6 ["thing"] FX_need_table := ⟨_, _, fx_need_table F21 h_is_table xa m_NoTable, MG X G a21, k21, bd_need_table F21⟩
  have hx_open_end : HasE l.prog w K mg base "open_end" 7 ["table", "name"] FX_open_end := ⟨_, _, fx_open_end F22 h_find_open_end hx_need_name hx_need_table, MG X G a22, k22, bd_open_end F22⟩
  have h_find_own_end : Has l.prog w K mg base "find_own_end" 4 ["table", "name"] F_find_own_end := ⟨_, _, fn_find_own_end F23 h_ends_longest_first h_find_open_end, MG X G a23, k23, bd_find_own_end F23⟩
  have hx_own_end : HasE l.prog w K mg base "own_end" 7 ["table", "name"] FX_own_end := ⟨_, _, fx_own_end F24 h_find_own_end hx_need_name hx_need_table, MG X G a24, k24, bd_own_end F24⟩
  have h__law_told : Has l.prog w K mg base "_law_told" 8 ["_law_way", "_law_table_here", "_law_name_here"] F__law_told := ⟨_, _, fn__law_told F25 hm__law_refused hx_open_end hx_own_end xa m_JarError, MG X G a25, k25, bd__law_told F25⟩
  exact fn_law F26 h__law_drawn h__law_is_rule h__law_is_table h__law_name h__law_open h__law_own h__law_table h__law_told h_is_rule h_is_table m_isinstance m_len m_list m_range m_set m_sorted m_str m_tuple
end G
set_option maxHeartbeats 4000000
namespace FD
open PySem PySem.Spec PyProof.Rows L2
theorem mapF_all {elt : FnE} {cap : Ev} {α : Type} (en : α → Dv) (f : α → Dv) : ∀ {l : List α}, (∀ a ∈ l, elt (cap.set 0 (some (en a))) = some (.ok (f a))) → mapF none elt cap (l.map en) = some (l.map f)
  | [], _ => rfl
  | a :: l, h => by
    have ih := mapF_all (elt := elt) (cap := cap) en f (l := l) fun b hb => h b (List.mem_cons_of_mem _ hb)
    rw [List.map_cons, List.map_cons]
    unfold mapF
    dsimp only
    rw [h a List.mem_cons_self, ih]
theorem mapF_some {tst : FnB} {elt : FnE} {cap : Ev} {α : Type} (en : α → Dv) (p : α → Bool) (f : α → Dv) : ∀ {l : List α}, (∀ a ∈ l, tst (cap.set 0 (some (en a))) = some (.ok (p a)) ∧ elt (cap.set 0 (some (en a))) = some (.ok (f a))) → mapF (some tst) elt cap (l.map en) = some ((l.filter p).map f)
  | [], _ => rfl
  | a :: l, h => by
    have ih := mapF_some (tst := tst) (elt := elt) (cap := cap) en p f (l := l) fun b hb => h b (List.mem_cons_of_mem _ hb)
    obtain ⟨h1, h2⟩ := h a List.mem_cons_self
    rw [List.map_cons]
    unfold mapF
    dsimp only
    rw [h1, ih]
    cases q : p a with
    | true => dsimp only; rw [h2, List.filter_cons_of_pos q]; rfl
    | false => dsimp only; rw [List.filter_cons_of_neg (by rw [q]; decide)]
theorem comp_all {cs : List (Str × Nat)} {src : FnA} {elt : FnE} {ρ : Ev} {α : Type} (en f : α → Dv) {l : List α} (hs : src ρ = some (.ok (l.map en))) (hl : l.length ≤ 100000) (h : ∀ a ∈ l, elt ((capE cs ρ).set 0 (some (en a))) = some (.ok (f a))) : fComp cs src none elt ρ = some (.ok (.lst (l.map f))) := by
  unfold fComp
  rw [hs]
  show (match mapF none elt (capE cs ρ) (l.map en) with | some ys => _ | none => _) = _
  rw [mapF_all en f h]
  dsimp only
  rw [if_pos ⟨by simpa using hl, by simpa using hl⟩]
theorem comp_some {cs : List (Str × Nat)} {src : FnA} {tst : FnB} {elt : FnE} {ρ : Ev} {α : Type} (en : α → Dv) (p : α → Bool) (f : α → Dv) {l : List α} (hs : src ρ = some (.ok (l.map en))) (hl : l.length ≤ 100000) (h : ∀ a ∈ l, tst ((capE cs ρ).set 0 (some (en a))) = some (.ok (p a)) ∧ elt ((capE cs ρ).set 0 (some (en a))) = some (.ok (f a))) :
    fComp cs src (some tst) elt ρ = some (.ok (.lst ((l.filter p).map f))) := by
  unfold fComp
  rw [hs]
  show (match mapF (some tst) elt (capE cs ρ) (l.map en) with | some ys => _ | none => _) = _
  rw [mapF_some en p f h]
  dsimp only
  have := List.length_filter_le p l
  rw [if_pos ⟨by simp; omega, by simpa using hl⟩]
theorem rng2_of {i j : Int} (h : -(2 ^ 62) ≤ i ∧ i < 2 ^ 62 ∧ -(2 ^ 62) ≤ j ∧ j < 2 ^ 62) : rng2 [.int i, .int j] = some (.ok (rng i (j - i).toNat)) := by rw [rng2, if_pos h]
theorem rng1_of {j : Int} (h : -(2 ^ 62) ≤ j ∧ j < 2 ^ 62) : rng1 [.int j] = some (.ok (rng 0 j.toNat)) := by rw [rng1, if_pos h]
theorem small62 {n : Nat} (h : n ≤ 1000) : -(2 ^ 62) ≤ (1 : Int) ∧ (1 : Int) < 2 ^ 62 ∧ -(2 ^ 62) ≤ (n : Int) ∧ (n : Int) < 2 ^ 62 := by omega
theorem rng2_n {n : Nat} (h : n ≤ 1000) : rng2 [.int 1, .int (n : Int)] = some (.ok (rng 1 ((n : Int) - 1).toNat)) := rng2_of (small62 h)
theorem rng1_n {n : Nat} (h : n ≤ 1000) : rng1 [.int (n : Int)] = some (.ok (rng 0 n)) := by
  rw [rng1_of (by omega)]; rfl
theorem bools_map {α : Type} (p : α → Bool) : ∀ l : List α, bools (l.map fun a => Dv.bl (p a)) = some (l.map p)
  | [] => rfl
  | a :: l => by
    show (match bools (l.map fun a => Dv.bl (p a)) with | some bs => some (p a :: bs) | none => none) = _
    rw [bools_map p l]
    rfl
mutual
def pln : Dv → Bool
  | .exn _ => false
  | .tup ds => plns ds
  | .lst ds => plns ds
  | _ => true
def plns : List Dv → Bool
  | [] => true
  | d :: ds => pln d && plns ds
end
mutual
theorem eqv_refl : ∀ d : Dv, pln d = true → PyData.eqv (toPy d) (toPy d) = true
  | .non, _ => by simp [toPy, PyData.eqv]
  | .bl b, _ => by simp [toPy, PyData.eqv]
  | .int b, _ => by simp [toPy, PyData.eqv]
  | .str b, _ => by simp [toPy, PyData.eqv]
  | .tup ds, h => by simp only [toPy, PyData.eqv]; exact eqvs_refl ds (by simpa [pln] using h)
  | .lst ds, h => by simp only [toPy, PyData.eqv]; exact eqvs_refl ds (by simpa [pln] using h)
  | .scr ns, _ => by
    simp only [toPy, PyData.eqv]
    induction ns with
    | nil => simp [PyData.eqvAll]
    | cons n ns ih => simp [PyData.eqvAll, PyData.eqv]; exact ih rfl
  | .exn _, h => by simp [pln] at h
theorem eqvs_refl : ∀ ds : List Dv, plns ds = true → PyData.eqvAll (toPys ds) (toPys ds) = true
  | [], _ => by simp [toPys, PyData.eqvAll]
  | d :: ds, h => by
    have h' : pln d = true ∧ plns ds = true := by simpa [plns] using h
    simp only [toPys, PyData.eqvAll, Bool.and_eq_true]
    exact ⟨eqv_refl d h'.1, eqvs_refl ds h'.2⟩
end
theorem ne_self {d : Dv} (h1 : okP d = true) (h2 : pln d = true) : neX d d = some (.ok (.bl false)) := by
  unfold neX
  split
  · rename_i b hb
    have : b = true := by
      cases d <;> simp [eqS] at hb
      · exact hb
      · exact hb
      · exact hb
      · rw [← hb]; unfold seq; simp
    rw [this]; rfl
  · rw [h1, eqv_refl d h2]; rfl
theorem eq_self {d : Dv} (h1 : okP d = true) (h2 : pln d = true) : eqX d d = some (.ok (.bl true)) := by
  unfold eqX
  split
  · rename_i b hb
    have : b = true := by
      cases d <;> simp [eqS] at hb
      · exact hb
      · exact hb
      · exact hb
      · rw [← hb]; unfold seq; simp
    rw [this]
  · rw [h1, eqv_refl d h2]; rfl
structure It1 (k : Nat) (d : Dv) : Prop where
  c : PyData.canLay0 (toPy d) = true
  dp : (toPy d).depth ≤ k
  p : pln d = true
theorem its_c {k : Nat} : ∀ {ds : List Dv}, (∀ d ∈ ds, It1 k d) → PyData.canLayAll0 (toPys ds) = true ∧ PyData.depthAll (toPys ds) ≤ k ∧ plns ds = true
  | [], _ => by simp [toPys, PyData.canLayAll0, PyData.depthAll, plns]
  | d :: ds, h => by
    obtain ⟨h1, h2, h3⟩ := its_c (ds := ds) fun d' hd => h d' (List.mem_cons_of_mem _ hd)
    have h0 := h d List.mem_cons_self
    simp only [toPys, PyData.canLayAll0, PyData.depthAll, plns, Bool.and_eq_true]
    exact ⟨⟨h0.c, h1⟩, by have := h0.dp; omega, h0.p, h3⟩
theorem it_tup {k : Nat} {ds : List Dv} (h : ∀ d ∈ ds, It1 k d) : It1 (k + 1) (.tup ds) := by
  obtain ⟨h1, h2, h3⟩ := its_c h
  exact ⟨by simpa [toPy, PyData.canLay0] using h1, by simp [toPy, PyData.depth]; exact h2, by simpa [pln] using h3⟩
theorem it_lst {k : Nat} {ds : List Dv} (h : ∀ d ∈ ds, It1 k d) : It1 (k + 1) (.lst ds) := by
  obtain ⟨h1, h2, h3⟩ := its_c h
  exact ⟨by simpa [toPy, PyData.canLay0] using h1, by simp [toPy, PyData.depth]; exact h2, by simpa [pln] using h3⟩
theorem It1.okP {k : Nat} {d : Dv} (h : It1 k d) (hk : k ≤ 64) : okP d = true := by
  unfold FD.okP SeqAt.shaped
  rw [h.c]
  have := h.dp
  simp
  omega
theorem It1.le {k m : Nat} {d : Dv} (h : It1 k d) (hk : k ≤ m) : It1 m d := ⟨h.c, Nat.le_trans h.dp hk, h.p⟩
theorem it_str {x : Str} (h : PyData.canLay0 (.str x) = true) : It1 0 (.str x) := ⟨h, by simp [toPy, PyData.depth], rfl⟩
theorem it_int {i : Int} : It1 0 (.int i) := ⟨rfl, by simp [toPy, PyData.depth], rfl⟩
theorem it_bl {i : Bool} : It1 0 (.bl i) := ⟨rfl, by simp [toPy, PyData.depth], rfl⟩
theorem it_non : It1 0 .non := ⟨rfl, by simp [toPy, PyData.depth], rfl⟩
end FD
namespace G
open PySem PySem.Spec PyProof.Rows L2 FD
theorem cell_ok (ns : List Int) (hl : ns.length ≤ 63) (k : Int) : ∃ c, F__law_cell [.scr ns, .int k] = some (.ok (.int c)) := by
  cases ns with
  | nil => exact ⟨7 * k, by kernel_rfl⟩
  | cons n r =>
    have h0 : 0 < (n :: r).length := by simp
    have h1 : (0 : Int) < ((n :: r).length : Int) := by omega
    have h2 : ((n :: r).length : Int) < 1073741824 := by omega
    have h3 : 0 ≤ k % ((n :: r).length : Int) := Int.emod_nonneg _ (by omega)
    have h4 : k % ((n :: r).length : Int) < ((n :: r).length : Int) := Int.emod_lt_of_pos _ h1
    have h5 : (k % ((n :: r).length : Int)).toNat < (n :: r).length := by omega
    refine ⟨(n :: r)[(k % ((n :: r).length : Int)).toNat] + 6553 * (k / ((n :: r).length : Int)), ?_⟩
    have hat : atD (n :: r) (k % ((n :: r).length : Int)) = some (n :: r)[(k % ((n :: r).length : Int)).toNat] := by
      unfold atD
      rw [if_pos h3, List.getElem?_eq_getElem h5]
    have hm : modD (.int k) (.int ((n :: r).length : Int)) = some (.ok (.int (k % ((n :: r).length : Int)))) := by
      show (if 0 < ((n :: r).length : Int) then _ else _) = _
      rw [if_pos h1]
    have hd : fdivD (.int k) (.int ((n :: r).length : Int)) = some (.ok (.int (k / ((n :: r).length : Int)))) := by
      show (if 0 < ((n :: r).length : Int) ∧ ((n :: r).length : Int) < 1073741824 then _ else _) = _
      rw [if_pos ⟨h1, h2⟩]
    have hi : ixD (.scr (n :: r)) (.int (k % ((n :: r).length : Int))) = some (.ok (.int (n :: r)[(k % ((n :: r).length : Int)).toNat])) := by
      show (match atD (n :: r) (k % ((n :: r).length : Int)) with | some d => _ | none => _) = _
      rw [hat]
    show (match B__law_cell [some (.scr (n :: r)), some (.int k)] with | some (.nx _) => _ | some (.rt d) => _ | _ => _) = _
    have e : B__law_cell [some (.scr (n :: r)), some (.int k)] = bndS (bnd (bnd (modD (.int k) (.int ((n :: r).length : Int))) fun i => ixD (.scr (n :: r)) i) fun x => bnd (bnd (fdivD (.int k) (.int ((n :: r).length : Int))) fun q => mulD (.int 6553) q) fun y => addD x y) fun d => some (.rt d) := by kernel_rfl
    rw [e, hm, hd]
    show (match bndS (bnd (ixD (.scr (n :: r)) (.int (k % ((n :: r).length : Int)))) fun x => _) _ with | some (.nx _) => _ | some (.rt d) => _ | _ => _) = _
    rw [hi]
    kernel_rfl
def dr1 (c k : Int) : Int := (c % 2147483563 * 69069 + 104723 * (k + 1)) % 2147483563
def dr2 (c : Int) : Int := (c * c + c / 3) % 2147483399
def dr3 (c m : Int) : Int := (c * c + c / 7) % 2147483647 / 11 % m
theorem mul_ok {i j : Int} (h : (-18446744073709551616 < i ∧ i < 18446744073709551616) ∨ (-18446744073709551616 < j ∧ j < 18446744073709551616)) : mulD (.int i) (.int j) = some (.ok (.int (i * j))) := by
  show (if _ then _ else _) = _
  rw [if_pos h]
theorem mod_ok {i j : Int} (h : 0 < j) : modD (.int i) (.int j) = some (.ok (.int (i % j))) := by
  show (if _ then _ else _) = _
  rw [if_pos h]
theorem drawn_ok (ns : List Int) (hl : ns.length ≤ 63) (k m : Int) (hm : 0 < m) : ∃ d : Int, 0 ≤ d ∧ d < m ∧ F__law_drawn [.scr ns, .int k, .int m] = some (.ok (.int d)) := by
  obtain ⟨c, hc⟩ := cell_ok ns hl k
  refine ⟨dr3 (dr2 (dr1 c k)) m, Int.emod_nonneg _ (by omega), Int.emod_lt_of_pos _ hm, ?_⟩
  have b1 : 0 ≤ dr1 c k ∧ dr1 c k < 2147483563 := ⟨Int.emod_nonneg _ (by omega), Int.emod_lt_of_pos _ (by omega)⟩
  have b2 : 0 ≤ dr2 (dr1 c k) ∧ dr2 (dr1 c k) < 2147483399 := ⟨Int.emod_nonneg _ (by omega), Int.emod_lt_of_pos _ (by omega)⟩
  have b0 : 0 ≤ c % 2147483563 ∧ c % 2147483563 < 2147483563 := ⟨Int.emod_nonneg _ (by omega), Int.emod_lt_of_pos _ (by omega)⟩
  show runF 4 B__law_drawn [.scr ns, .int k, .int m] = _
  have s1 : (fCall F__law_cell 2 (aCons (fVar 0) (aCons (fVar 1) aNil))) [some (.scr ns), some (.int k), some (.int m), none] = some (.ok (.int c)) := by
    show (match F__law_cell [.scr ns, .int k] with | some (.ok d) => (some (.ok d) : Option (Rs Dv)) | _ => none) = _
    rw [hc]
  have e1 : (fSet 3 (f2 modD (f2 addD (f2 mulD (f2 modD (fCall F__law_cell 2 (aCons (fVar 0) (aCons (fVar 1) aNil))) (fC (.int 2147483563))) (fC (.int 69069))) (f2 mulD (fC (.int 104723)) (f2 addD (fVar 1) (fC (.int 1))))) (fC (.int 2147483563)))) [some (.scr ns), some (.int k), some (.int m), none] = some (.nx [some (.scr ns), some (.int k), some (.int m), some (.int (dr1 c k))]) := by
    show bndS (bnd (bnd (bnd (bnd ((fCall F__law_cell 2 (aCons (fVar 0) (aCons (fVar 1) aNil))) [some (.scr ns), some (.int k), some (.int m), none]) fun x => modD x (.int 2147483563)) fun x => mulD x (.int 69069)) fun x => bnd (mulD (.int 104723) (.int (k + 1))) fun y => addD x y) fun x => modD x (.int 2147483563)) (fun d => some (.nx [some (.scr ns), some (.int k), some (.int m), some d])) = _
    rw [s1]
    show bndS (bnd (bnd (bnd (modD (.int c) (.int 2147483563)) fun x => mulD x (.int 69069)) fun x => bnd (mulD (.int 104723) (.int (k + 1))) fun y => addD x y) fun x => modD x (.int 2147483563)) _ = _
    rw [mod_ok (by omega), mul_ok (i := 104723) (.inl (by omega))]
    show bndS (bnd (bnd (mulD (.int (c % 2147483563)) (.int 69069)) fun x => addD x (.int (104723 * (k + 1)))) fun x => modD x (.int 2147483563)) _ = _
    rw [mul_ok (.inl (by omega))]
    show bndS (modD (.int (c % 2147483563 * 69069 + 104723 * (k + 1))) (.int 2147483563)) _ = _
    rw [mod_ok (by omega)]
    rfl
  generalize hd1 : dr1 c k = d1 at *
  have e2 : (fSet 3 (f2 modD (f2 addD (f2 mulD (fVar 3) (fVar 3)) (f2 fdivD (fVar 3) (fC (.int 3)))) (fC (.int 2147483399)))) [some (.scr ns), some (.int k), some (.int m), some (.int d1)] = some (.nx [some (.scr ns), some (.int k), some (.int m), some (.int (dr2 d1))]) := by
    show bndS (bnd (bnd (mulD (.int d1) (.int d1)) fun x => addD x (.int (d1 / 3))) fun x => modD x (.int 2147483399)) (fun d => some (.nx [some (.scr ns), some (.int k), some (.int m), some d])) = _
    rw [mul_ok (.inl (by omega))]
    show bndS (modD (.int (d1 * d1 + d1 / 3)) (.int 2147483399)) _ = _
    rw [mod_ok (by omega)]
    rfl
  generalize hd2 : dr2 d1 = d2 at *
  have e3 : (fRet (f2 modD (f2 fdivD (f2 modD (f2 addD (f2 mulD (fVar 3) (fVar 3)) (f2 fdivD (fVar 3) (fC (.int 7)))) (fC (.int 2147483647))) (fC (.int 11))) (fVar 2))) [some (.scr ns), some (.int k), some (.int m), some (.int d2)] = some (.rt (.int (dr3 d2 m))) := by
    show bndS (bnd (bnd (bnd (bnd (mulD (.int d2) (.int d2)) fun x => addD x (.int (d2 / 7))) fun x => modD x (.int 2147483647)) fun x => fdivD x (.int 11)) fun x => modD x (.int m)) (fun d => some (.rt d)) = _
    rw [mul_ok (.inl (by omega))]
    show bndS (bnd (bnd (modD (.int (d2 * d2 + d2 / 7)) (.int 2147483647)) fun x => fdivD x (.int 11)) fun x => modD x (.int m)) _ = _
    rw [mod_ok (by omega)]
    show bndS (modD (.int ((d2 * d2 + d2 / 7) % 2147483647 / 11)) (.int m)) _ = _
    rw [mod_ok hm]
    rfl
  show (match B__law_drawn [some (.scr ns), some (.int k), some (.int m), none] with | some (.nx _) => _ | some (.rt d) => _ | _ => _) = _
  have e : B__law_drawn [some (.scr ns), some (.int k), some (.int m), none] = some (.rt (.int (dr3 d2 m))) := by
    show sq ((fSet 3 _) _) (fun ρ => sq ((fSet 3 _) ρ) _) = _
    rw [e1]
    show sq ((fSet 3 _) [some (.scr ns), some (.int k), some (.int m), some (.int d1)]) _ = _
    rw [e2]
    exact e3
  rw [e]
def menu : List Str := [Str.ofString "a.b", Str.ofString "b", Str.ofString "x.a.b", Str.ofString "y.x.a.b", Str.ofString "c.uk", Str.ofString "uk", Str.ofString "d.c.uk", Str.ofString "e.d.c.uk", Str.ofString "w.ck", Str.ofString "v.w.ck", Str.ofString "ck", Str.ofString "g-1.a.b", Str.ofString "7.b", Str.ofString "p.q"]
def rules : List Dv := [.str "!w.ck", .str "*.ck", .str "*.uk", .str "a.b", .str "b", .str "c.uk", .str "q", .str "uk"]
def subs : List Dv → List (List Dv)
  | [] => [[]]
  | x :: r => (subs r).map (x :: ·) ++ subs r
def okO (o : Option (Rs Dv)) : Option (Rs Dv) := match o with
  | some (.ok d) => some (.ok d)
  | _ => none
theorem name_ok (ns : List Int) (hl : ns.length ≤ 63) (k : Int) : ∃ p ∈ menu, F__law_name [.scr ns, .int k] = some (.ok (.str p)) := by
  obtain ⟨d, h0, h1, hd⟩ := drawn_ok ns hl k 14 (by omega)
  have e : F__law_name [.scr ns, .int k] = (match bndS (bnd (match F__law_drawn [.scr ns, .int k, .int 14] with | some (.ok d) => (some (.ok d) : Option (Rs Dv)) | _ => none) fun i => ixD (.lst (menu.map Dv.str)) i) fun d => some (.rt d) with
    | some (.nx _) => some (.ok .non)
    | some (.rt d) => some (.ok d)
    | _ => none) := by kernel_rfl
  rw [e, hd]
  have hc : d = 0 ∨ d = 1 ∨ d = 2 ∨ d = 3 ∨ d = 4 ∨ d = 5 ∨ d = 6 ∨ d = 7 ∨ d = 8 ∨ d = 9 ∨ d = 10 ∨ d = 11 ∨ d = 12 ∨ d = 13 := by omega
  rcases hc with rfl | rfl | rfl | rfl | rfl | rfl | rfl | rfl | rfl | rfl | rfl | rfl | rfl | rfl
  · exact ⟨Str.ofString "a.b", by simp [menu], by kernel_rfl⟩
  · exact ⟨Str.ofString "b", by simp [menu], by kernel_rfl⟩
  · exact ⟨Str.ofString "x.a.b", by simp [menu], by kernel_rfl⟩
  · exact ⟨Str.ofString "y.x.a.b", by simp [menu], by kernel_rfl⟩
  · exact ⟨Str.ofString "c.uk", by simp [menu], by kernel_rfl⟩
  · exact ⟨Str.ofString "uk", by simp [menu], by kernel_rfl⟩
  · exact ⟨Str.ofString "d.c.uk", by simp [menu], by kernel_rfl⟩
  · exact ⟨Str.ofString "e.d.c.uk", by simp [menu], by kernel_rfl⟩
  · exact ⟨Str.ofString "w.ck", by simp [menu], by kernel_rfl⟩
  · exact ⟨Str.ofString "v.w.ck", by simp [menu], by kernel_rfl⟩
  · exact ⟨Str.ofString "ck", by simp [menu], by kernel_rfl⟩
  · exact ⟨Str.ofString "g-1.a.b", by simp [menu], by kernel_rfl⟩
  · exact ⟨Str.ofString "7.b", by simp [menu], by kernel_rfl⟩
  · exact ⟨Str.ofString "p.q", by simp [menu], by kernel_rfl⟩
def tstT : FnB := fB (f2 eqX (fCall F__law_drawn 3 (aCons (fVar 2) (aCons (f2 addD (fVar 3) (fVar 0)) (aCons (fC (.int 2)) aNil)))) (fC (.int 0)))
theorem sel_ok (ns : List Int) (hl : ns.length ≤ 63) (z : Int) : ∀ (l : List Dv) (k : Nat), ∃ t ∈ subs l, mapG (gP 0 1) (some tstT) (fVar 1) [none, none, some (.scr ns), some (.int z)] (enumL k l) = some t
  | [], k => ⟨[], by simp [subs], rfl⟩
  | x :: r, k => by
    obtain ⟨t, ht, e⟩ := sel_ok ns hl z r (k + 1)
    obtain ⟨d, h0, h1, hd⟩ := drawn_ok ns hl (z + k) 2 (by omega)
    have ht' : tstT [some (.int k), some x, some (.scr ns), some (.int z)] = bnd (bnd (okO (F__law_drawn [.scr ns, .int (z + k), .int 2])) fun x => eqX x (.int 0)) toB := by kernel_rfl
    have hu : mapG (gP 0 1) (some tstT) (fVar 1) [none, none, some (.scr ns), some (.int z)] (enumL k (x :: r)) = (match tstT [some (.int k), some x, some (.scr ns), some (.int z)] with
      | some (.ok true) => (match mapG (gP 0 1) (some tstT) (fVar 1) [none, none, some (.scr ns), some (.int z)] (enumL (k + 1) r) with | some ys => some (x :: ys) | none => none)
      | some (.ok false) => mapG (gP 0 1) (some tstT) (fVar 1) [none, none, some (.scr ns), some (.int z)] (enumL (k + 1) r)
      | _ => none) := by kernel_rfl
    rw [hu, ht', hd, e]
    have hc : d = 0 ∨ d = 1 := by omega
    rcases hc with rfl | rfl
    · exact ⟨x :: t, by simp [subs, ht], by kernel_rfl⟩
    · exact ⟨t, by simp [subs, ht], by kernel_rfl⟩
theorem subs_len : ∀ {l t : List Dv}, t ∈ subs l → t.length ≤ l.length
  | [], t, h => by simp [subs] at h; simp [h]
  | x :: r, t, h => by
    simp only [subs, List.mem_append, List.mem_map] at h
    rcases h with ⟨u, hu, rfl⟩ | h
    · have := subs_len hu; simp; omega
    · have := subs_len h; simp; omega
theorem table_ok (ns : List Int) (hl : ns.length ≤ 63) : ∃ t ∈ subs rules, F__law_table [.scr ns, .int 0] = some (.ok (.tup t)) := by
  obtain ⟨t, ht, e⟩ := sel_ok ns hl 0 rules 0
  refine ⟨t, ht, ?_⟩
  have hle : t.length ≤ 100000 := by have := subs_len ht; have : rules.length = 8 := rfl; omega
  have hu : F__law_table [.scr ns, .int 0] = (match bndS (bnd (bnd (match mapG (gP 0 1) (some tstT) (fVar 1) [none, none, some (.scr ns), some (.int 0)] (enumL 0 rules) with
    | some ys => if ys.length ≤ 100000 ∧ (enumL 0 rules).length ≤ 100000 then (some (.ok (.lst ys)) : Option (Rs Dv)) else none
    | none => none) fun x => bnd (some (.ok [])) fun ys => some (.ok (x :: ys))) tupleD) fun d => some (.rt d) with
    | some (.nx _) => some (.ok .non)
    | some (.rt d) => some (.ok d)
    | _ => none) := by kernel_rfl
  rw [hu, e]
  dsimp only
  rw [if_pos ⟨hle, by decide⟩]
  rfl
theorem call3 (F : List Dv → Option (Rs Dv)) {f g k : FnE} {ρ : Ev} {a b c d : Dv} (h : f ρ = some (.ok a)) (h' : g ρ = some (.ok b)) (h'' : k ρ = some (.ok c)) (hF : F [a, b, c] = some (.ok d)) : fCall F 3 (aCons f (aCons g (aCons k aNil))) ρ = some (.ok d) := fCall_of (aCons_of h (aCons_of h' (aCons_of h'' aNil_of))) rfl hF
end G
namespace G
open PySem PySem.Spec PyProof.Rows L2 FD
abbrev bo (k : Bool) : Option (Rs Dv) := some (.ok (.bl k))
theorem seq_true {x y : Str} (h : seq x y = true) : x = y := by
  unfold seq at h
  obtain ⟨⟨a⟩⟩ := x; obtain ⟨⟨b⟩⟩ := y
  simp at h
  rw [h]
theorem all_cut {α : Type} {l : List α} {p : α → Bool} (n : Nat) (h1 : (l.take n).all p = true) (h2 : (l.drop n).all p = true) : l.all p = true := by
  rw [← List.take_append_drop n l, List.all_append, h1, h2]; rfl
def opOk (t : List Dv) (n : Str) : Bool := match F_find_open_end [.tup t, .str n], F__law_open [.tup t, .str n], F_find_own_end [.tup t, .str n], F__law_own [.tup t, .str n] with
  | some (.ok (.str m)), some (.ok (.str m')), some (.ok .non), some (.ok .non) => seq m m' && PyData.canLay0 (.str m)
  | some (.ok (.str m)), some (.ok (.str m')), some (.ok (.str z)), some (.ok (.str z')) => (seq m m' && PyData.canLay0 (.str m)) && (seq z z' && PyData.canLay0 (.str z))
  | _, _, _, _ => false
def M10s : List Str := ["!a.b", "!w.ck", "*.ck", "*.uk", "a.b", "b", "c.uk", "q", "uk", "zz"]
def M10 : List Dv := M10s.map Dv.str
def opAll (t : List Dv) : Bool := menu.all fun n => opOk t n
def okY : Option (Rs Dv) → Bool
  | some (.ok (.bl true)) => true
  | _ => false
theorem okY_eq {o : Option (Rs Dv)} (h : okY o = true) : o = some (.ok (.bl true)) := by
  unfold okY at h; split at h
  · rfl
  · cases h
def okF : Option (Rs Dv) → Bool
  | some (.ok (.bl false)) => true
  | _ => false
theorem okF_eq {o : Option (Rs Dv)} (h : okF o = true) : o = some (.ok (.bl false)) := by
  unfold okF at h; split at h
  · rfl
  · cases h
end G
namespace G
open PySem PySem.Spec PyProof.Rows L2 FD
theorem addK_nd {α : Type} [DecidableEq α] {acc : List α} {k : α} (h : acc.Nodup) : (ST.addK acc k).Nodup := by
  unfold ST.addK
  split
  · exact h
  · exact List.nodup_cons.mpr ⟨by assumption, h⟩
theorem fold_nd {α : Type} [DecidableEq α] : ∀ (ks acc : List α), acc.Nodup → (ks.foldl ST.addK acc).Nodup
  | [], acc, h => h
  | k :: ks, acc, h => fold_nd ks _ (addK_nd h)
theorem fold_pm {α : Type} [DecidableEq α] : ∀ (ks acc : List α), ks.Nodup → (∀ k ∈ ks, k ∉ acc) → (ks.foldl ST.addK acc).Perm (ks ++ acc)
  | [], acc, _, _ => .refl _
  | k :: ks, acc, h, hd => by
    rw [List.nodup_cons] at h
    have e : ST.addK acc k = k :: acc := by unfold ST.addK; rw [if_neg (hd k List.mem_cons_self)]
    show (ks.foldl ST.addK (ST.addK acc k)).Perm _
    rw [e]
    refine (fold_pm ks (k :: acc) h.2 fun x hx hx' => ?_).trans ?_
    · rcases List.mem_cons.mp hx' with rfl | hx'
      · exact h.1 hx
      · exact hd x (List.mem_cons_of_mem _ hx) hx'
    · exact List.perm_middle
def ltS (a b : Str) : Bool := decide (a.cps.toList < b.cps.toList)
def strB : List Str → Bool
  | a :: b :: r => ltS a b && strB (b :: r)
  | _ => true
theorem ltS_tr {a b c : Str} (h : ltS a b = true) (h' : ltS b c = true) : ltS a c = true := by
  simp only [ltS, decide_eq_true_eq] at *
  exact List.lt_trans h h'
theorem ltS_ir (a : Str) : ltS a a = false := by
  simp only [ltS, decide_eq_false_iff_not]
  exact List.lt_irrefl _
theorem strB_pw : ∀ {ks : List Str}, strB ks = true → ks.Pairwise (fun a b => ltS a b = true)
  | [], _ => .nil
  | [a], _ => by simp
  | a :: b :: r, h => by
    simp only [strB, Bool.and_eq_true] at h
    have ih := strB_pw h.2
    rw [List.pairwise_cons]
    refine ⟨fun z hz => ?_, ih⟩
    rw [List.pairwise_cons] at ih
    rcases List.mem_cons.mp hz with rfl | hz
    · exact h.1
    · exact ltS_tr h.1 (ih.1 z hz)
theorem pw_strB : ∀ {ks : List Str}, ks.Pairwise (fun a b => ltS a b = true) → strB ks = true
  | [], _ => rfl
  | [a], _ => rfl
  | a :: b :: r, h => by
    rw [List.pairwise_cons] at h
    simp only [strB, Bool.and_eq_true]
    exact ⟨h.1 b List.mem_cons_self, pw_strB h.2⟩
theorem lt_le {a b : Str} (h : ltS a b = true) : leS a b = true := by
  simp only [ltS, decide_eq_true_eq] at h
  simp only [leS, Bool.not_eq_true', decide_eq_false_iff_not]
  exact fun h' => List.lt_irrefl _ (List.lt_trans h h')
theorem le_lt {a b : Str} (h : leS a b = true) (hn : a ≠ b) : ltS a b = true := by
  cases hc : leS b a with
  | true => exact absurd (ordS.an _ _ h hc) hn
  | false =>
    simp only [leS, Bool.not_eq_false', decide_eq_true_eq] at hc
    simpa [ltS] using hc
theorem pw_nd {ks : List Str} (h : ks.Pairwise (fun a b => ltS a b = true)) : ks.Nodup :=
  h.imp fun {a b} hab e => by subst e; rw [ltS_ir] at hab; cases hab
theorem sort_iff (ks : List Str) : decide (ks = isortB leS (ST.ddk ks)) = strB ks := by
  rw [Bool.eq_iff_iff, decide_eq_true_eq]
  constructor
  · intro h
    have hs := isortB_sorted ordS (ST.ddk ks)
    have hn : (isortB leS (ST.ddk ks)).Nodup := (isortB_perm leS (ST.ddk ks)).nodup_iff.mpr (fold_nd ks [] List.nodup_nil)
    rw [← h] at hs hn
    refine pw_strB ?_
    exact (hs.and hn).imp fun hab => le_lt hab.1 hab.2
  · intro h
    have hp := strB_pw h
    have hd := pw_nd hp
    refine sorted_uniq ordS ?_ (hp.imp lt_le) (isortB_sorted ordS _)
    have := fold_pm ks [] hd (fun _ _ h => by simp at h)
    rw [List.append_nil] at this
    exact ((isortB_perm leS _).trans this).symm
theorem strB_rng : ∀ ks : List Str, ((List.range (ks.length - 1)).all fun i => ltS (ks.getD i "") (ks.getD (i + 1) "")) = strB ks
  | [] => rfl
  | [a] => rfl
  | a :: b :: r => by
    have ih := strB_rng (b :: r)
    rw [show (a :: b :: r).length - 1 = ((b :: r).length - 1) + 1 by simp, List.range_succ_eq_map, List.all_cons, List.all_map, strB, ← ih]
    rfl
theorem sub_of : ∀ (M ks : List Str), M.Pairwise (fun a b => ltS a b = true) → ks.Pairwise (fun a b => ltS a b = true) → (∀ k ∈ ks, k ∈ M) → ks.map Dv.str ∈ subs (M.map Dv.str)
  | [], ks, _, _, h => by
    cases ks with
    | nil => simp [subs]
    | cons k ks => exact absurd (h k List.mem_cons_self) (by simp)
  | x :: M, [], hM, hk, h => by
    rw [List.pairwise_cons] at hM
    simp only [List.map_cons, subs, List.mem_append]
    exact .inr (sub_of M [] hM.2 .nil (fun _ z => by simp at z))
  | x :: M, k :: ks, hM, hk, h => by
    rw [List.pairwise_cons] at hM hk
    simp only [List.map_cons, subs, List.mem_append, List.mem_map]
    by_cases e : k = x
    · subst e
      refine .inl ⟨_, sub_of M ks hM.2 hk.2 (fun z hz => ?_), rfl⟩
      rcases List.mem_cons.mp (h z (List.mem_cons_of_mem _ hz)) with rfl | q
      · have := hk.1 _ hz
        rw [ltS_ir] at this
        cases this
      · exact q
    · refine .inr ?_
      have hkM : k ∈ M := by
        rcases List.mem_cons.mp (h k List.mem_cons_self) with q | q
        · exact absurd q e
        · exact q
      have := sub_of M (k :: ks) hM.2 (List.pairwise_cons.mpr hk) (fun z hz => ?_)
      · exact this
      · rcases List.mem_cons.mp (h z hz) with rfl | q
        · rcases List.mem_cons.mp hz with q | hz
          · exact absurd q.symm e
          · have h1 := hk.1 _ hz
            have h2 := hM.1 _ hkM
            have := ltS_tr h1 h2
            rw [ltS_ir] at this
            cases this
        · exact q
theorem M_pw : M10s.Pairwise (fun a b => ltS a b = true) := strB_pw (by kernel_rfl)
def odds : List Dv := [.str "*.uk", .str "!uk", .str "!a.b", .str "*", .str "*.", .str "!", .str "*.*.b", .str "b.1", .str "zz", .str "", .non, .int 1, .str "!*.b", .str "**.b"]
def items : List Dv := rules ++ odds
def isR (d : Dv) : Bool := okY (F_is_rule [d])
def inM (d : Dv) : Bool := match d with
  | .str x => M10s.any fun y => seq x y
  | _ => false
def rlOk (d : Dv) : Bool := match F_is_rule [d], F__law_is_rule [d] with
  | some (.ok (.bl true)), some (.ok (.bl true)) => inM d
  | some (.ok (.bl false)), some (.ok (.bl false)) => true
  | _, _ => false
theorem rl_all : (items.all rlOk) = true := by kernel_rfl
theorem rl_ok {d : Dv} (h : d ∈ items) : F_is_rule [d] = bo (isR d) ∧ F__law_is_rule [d] = bo (isR d) ∧ (isR d = true → ∃ x ∈ M10s, d = .str x) := by
  have q := all_mem (p := rlOk) rl_all h
  unfold rlOk at q
  split at q
  · rename_i h1 h2
    have e : isR d = true := by unfold isR; rw [h1]; rfl
    rw [e]
    refine ⟨h1, h2, fun _ => ?_⟩
    unfold inM at q
    split at q
    · rename_i x
      obtain ⟨y, hy, e2⟩ := List.any_eq_true.mp q
      have := seq_true e2
      subst this
      exact ⟨_, hy, rfl⟩
    · cases q
  · rename_i h1 h2
    have e : isR d = false := by unfold isR; rw [h1]; rfl
    rw [e]
    exact ⟨h1, h2, fun z => by cases z⟩
  · cases q
end G
namespace G
open PySem PySem.Spec PyProof.Rows L2 FD
theorem bnd_ok {α β : Type} {o : Option (Rs α)} {a : α} {k : α → Option (Rs β)} (h : o = some (.ok a)) : bnd o k = k a := by rw [h]; rfl
theorem rng_map : ∀ (n : Nat) (lo : Int), rng lo n = (List.range n).map fun i : Nat => Dv.int (lo + (i : Int))
  | 0, lo => rfl
  | n + 1, lo => by
    rw [List.range_succ_eq_map, List.map_cons, List.map_map, rng, rng_map n (lo + 1)]
    simp only [List.cons.injEq]
    refine ⟨by simp, List.map_congr_left fun i _ => ?_⟩
    simp only [Function.comp]
    congr 1
    omega
theorem ifRt {c : FnB} {f : FnE} {g' h : FnS} {ρ : Ev} {d : Dv} (hc : c ρ = some (.ok true)) (hf : f ρ = some (.ok d)) : fSeq (fIfS c (fRet f) g') h ρ = some (.rt d) := by
  refine fSeq_rt ?_
  unfold fIfS
  rw [hc]
  show fRet f ρ = _
  exact fRet_rt hf
theorem all_map {α : Type} (p : α → Bool) (l : List α) : allD [.lst (l.map fun a => Dv.bl (p a))] = bo (l.all p) := by
  unfold allD
  dsimp only
  rw [bools_map p l]
  dsimp only
  rw [List.all_map]
  rfl
theorem it_ne {k : Nat} {d : Dv} (h : It1 k d) (hk : k ≤ 64) : neX d d = some (.ok (.bl false)) := ne_self (h.okP hk) h.p
theorem lay_all : (items.all fun d => PyData.canLay0 (toPy d) && decide ((toPy d).depth ≤ 0) && pln d) = true := by kernel_rfl
theorem it_item {d : Dv} (h : d ∈ items) : It1 0 d := by
  have := all_mem (p := fun d => PyData.canLay0 (toPy d) && decide ((toPy d).depth ≤ 0) && pln d) lay_all h
  simp only [Bool.and_eq_true, decide_eq_true_eq] at this
  exact ⟨this.1.1, this.1.2, this.2⟩
theorem lay_M : (M10s.all fun x => PyData.canLay0 (.str x)) = true := by kernel_rfl
theorem it_M {x : Str} (h : x ∈ M10s) : It1 0 (.str x) := it_str (all_mem (p := fun x => PyData.canLay0 (.str x)) lay_M h)
theorem eqvs_str : ∀ (a b : List Str), PyData.eqvAll (toPys (a.map Dv.str)) (toPys (b.map Dv.str)) = decide (a = b)
  | [], [] => by simp [toPys, PyData.eqvAll]
  | [], y :: b => by simp [toPys, PyData.eqvAll]
  | x :: a, [] => by simp [toPys, PyData.eqvAll]
  | x :: a, y :: b => by
    have ih := eqvs_str a b
    simp only [List.map_cons, toPys, toPy, PyData.eqvAll, PyData.eqv, ih]
    rw [Bool.eq_iff_iff]
    simp
theorem eq_lst {a b : List Str} (ha : ∀ x ∈ a, x ∈ M10s) (hb : ∀ x ∈ b, x ∈ M10s) : eqX (.lst (a.map Dv.str)) (.lst (b.map Dv.str)) = bo (decide (a = b)) := by
  have h1 : okP (.lst (a.map Dv.str)) = true := (it_lst (k := 0) fun d hd => by obtain ⟨x, hx, rfl⟩ := List.mem_map.mp hd; exact it_M (ha x hx)).okP (by omega)
  have h2 : okP (.lst (b.map Dv.str)) = true := (it_lst (k := 0) fun d hd => by obtain ⟨x, hx, rfl⟩ := List.mem_map.mp hd; exact it_M (hb x hx)).okP (by omega)
  unfold eqX
  rw [show eqS (.lst (a.map Dv.str)) (.lst (b.map Dv.str)) = none from rfl]
  dsimp only
  rw [h1, h2, if_pos (show (true && true) = true from rfl)]
  show some (Rs.ok (Dv.bl (PyData.eqv (.list (toPys (a.map Dv.str))) (.list (toPys (b.map Dv.str)))))) = _
  rw [show PyData.eqv (.list (toPys (a.map Dv.str))) (.list (toPys (b.map Dv.str))) = PyData.eqvAll (toPys (a.map Dv.str)) (toPys (b.map Dv.str)) by simp [PyData.eqv], eqvs_str]
theorem strsOf_map : ∀ ks : List Str, strsOf (ks.map Dv.str) = some ks
  | [] => rfl
  | x :: ks => by
    show (strsOf (ks.map Dv.str)).map (x :: ·) = _
    rw [strsOf_map ks]
    rfl
theorem mem_fold {α : Type} [DecidableEq α] : ∀ (ks acc : List α) (x : α), x ∈ ks.foldl ST.addK acc → x ∈ ks ∨ x ∈ acc
  | [], acc, x, h => .inr h
  | k :: ks, acc, x, h => by
    rcases mem_fold ks _ x h with q | q
    · exact .inl (List.mem_cons_of_mem _ q)
    · unfold ST.addK at q
      split at q
      · exact .inr q
      · rcases List.mem_cons.mp q with rfl | q
        · exact .inl List.mem_cons_self
        · exact .inr q
theorem mem_ddk {ks : List Str} {x : Str} (h : x ∈ ST.ddk ks) : x ∈ ks := by
  rcases mem_fold ks [] x h with q | q
  · exact q
  · simp at q
theorem strs_of_M : ∀ {ds : List Dv}, (∀ d ∈ ds, ∃ x ∈ M10s, d = .str x) → ∃ ks : List Str, ds = ks.map Dv.str ∧ ∀ k ∈ ks, k ∈ M10s
  | [], _ => ⟨[], rfl, by simp⟩
  | d :: ds, h => by
    obtain ⟨x, hx, rfl⟩ := h d List.mem_cons_self
    obtain ⟨ks, rfl, hk⟩ := strs_of_M (ds := ds) fun d hd => h d (List.mem_cons_of_mem _ hd)
    exact ⟨x :: ks, rfl, fun k hk' => by
      rcases List.mem_cons.mp hk' with rfl | q
      · exact hx
      · exact hk k q⟩
def tabB (ds : List Dv) : Bool := decide (ds.length ≤ 8) && ds.all isR && (match strsOf ds with | some ks => strB ks | none => false)
section
variable {ds : List Dv}
theorem len_c (ds : List Dv) : fB (f2 gtD (fB1 lenD (aCons (fVar 0) aNil)) (fC (.int 8))) [some (.tup ds)] = some (.ok (decide (8 < ds.length))) := by
  show some (Rs.ok (decide ((ds.length : Int) > 8))) = _
  congr 2
  rw [Bool.eq_iff_iff]
  simp
  omega
theorem c0_of (ds : List Dv) : (bOr (bNot (fB (f1 (isiD tbTup) (fVar 0)))) (fB (f2 gtD (fB1 lenD (aCons (fVar 0) aNil)) (fC (.int 8))))) [some (.tup ds)] = some (.ok (decide (8 < ds.length))) := by
  rw [bOr_F (by rfl)]
  exact len_c ds
theorem itm {ks : List Str} {i : Nat} (h : i < ks.length) : ixD (.tup (ks.map Dv.str)) (.int i) = some (.ok (.str (ks.getD i ""))) := by
  show (match atD (ks.map Dv.str) (i : Int) with | some d => _ | none => _) = _
  unfold atD
  rw [if_pos (by omega)]
  simp [h]
theorem tab_ok (h : ∀ d ∈ ds, d ∈ items) (hl : ds.length ≤ 50) : F_is_table [.tup ds] = bo (tabB ds) := by
  refine run_rt ?_
  show B_is_table [some (.tup ds)] = _
  unfold B_is_table tabB
  by_cases h8 : ds.length ≤ 8
  · rw [fSeq_nx (ifS_skip ((c0_of ds).trans (by simp; omega)))]
    have e1 : (fComp [] (iSeq (fVar 0)) none (fCall F_is_rule 1 (aCons (fVar 0) aNil))) [some (.tup ds)] = some (.ok (.lst (ds.map fun d => Dv.bl (isR d)))) :=
      (comp_all (l := ds) id (fun d => .bl (isR d)) (by rw [List.map_id]; rfl) (by omega) fun d hd => call1 F_is_rule rfl (rl_ok (h d hd)).1)
    have e2 : (bNot (fB (fB1 allD (aCons (fComp [] (iSeq (fVar 0)) none (fCall F_is_rule 1 (aCons (fVar 0) aNil))) aNil)))) [some (.tup ds)] = some (.ok (!ds.all isR)) :=
      bNot_of (fB_of ((fB1_of (aCons_of e1 aNil_of)).trans (all_map isR ds)))
    cases hr : ds.all isR with
    | false =>
      rw [hr] at e2
      rw [ifRt e2 (d := .bl false) rfl]
      simp
    | true =>
      rw [hr] at e2
      rw [fSeq_nx (ifS_skip e2)]
      obtain ⟨ks, rfl, hk⟩ := strs_of_M (ds := ds) fun d hd => (rl_ok (h d hd)).2.2 (List.all_eq_true.mp hr d hd)
      rw [strsOf_map]
      refine fRet_rt ?_
      rw [List.length_map] at h8
      have hs : (fun ρ => bnd ((aCons (fC (.int 1)) (aCons (fB1 lenD (aCons (fVar 0) aNil)) aNil)) ρ) rng2) [some (.tup (ks.map Dv.str))] = some (.ok ((List.range (ks.length - 1)).map fun i : Nat => Dv.int (1 + (i : Int)))) := by
        have q : (aCons (fC (.int 1)) (aCons (fB1 lenD (aCons (fVar 0) aNil)) aNil)) [some (.tup (ks.map Dv.str))] = some (.ok [.int 1, .int ks.length]) := by
          simp [bnd, aCons, aNil, fB1, fC, fVar, lenD]
        refine (bnd_ok (k := rng2) q).trans ?_
        rw [rng2_n (by omega), rng_map, show ((ks.length : Int) - 1).toNat = ks.length - 1 by omega]
      have e3 := comp_all (cs := [("thing", 0)]) (src := (fun ρ => bnd ((aCons (fC (.int 1)) (aCons (fB1 lenD (aCons (fVar 0) aNil)) aNil)) ρ) rng2)) (elt := (f2 ltX (f2 ixD (fVar 1) (f2 subD (fVar 0) (fC (.int 1)))) (f2 ixD (fVar 1) (fVar 0)))) (ρ := [some (.tup (ks.map Dv.str))]) (fun i : Nat => Dv.int (1 + (i : Int))) (fun i : Nat => Dv.bl (ltS (ks.getD i "") (ks.getD (i + 1) ""))) hs (by rw [List.length_range]; omega) fun i hi => by
        have hi' : i + 1 < ks.length := by have := List.mem_range.mp hi; omega
        have h1 : f2 ixD (fVar 1) (f2 subD (fVar 0) (fC (.int 1))) [some (.int (1 + (i : Int))), some (.tup (ks.map Dv.str))] = some (.ok (.str (ks.getD i ""))) := by
          have q := itm (ks := ks) (i := i) (by omega)
          rw [show (i : Int) = 1 + (i : Int) - 1 by omega] at q
          exact q
        have h2 : f2 ixD (fVar 1) (fVar 0) [some (.int (1 + (i : Int))), some (.tup (ks.map Dv.str))] = some (.ok (.str (ks.getD (i + 1) ""))) := by
          have q := itm (ks := ks) (i := i + 1) hi'
          rw [show ((i + 1 : Nat) : Int) = 1 + (i : Int) by omega] at q
          exact q
        exact (f2_of h1 h2).trans rfl
      refine ((fB1_of (aCons_of e3 aNil_of)).trans (all_map (fun i : Nat => ltS (ks.getD i "") (ks.getD (i + 1) "")) _)).trans ?_
      rw [strB_rng]
      simp [h8]
  · rw [ifRt ((c0_of ds).trans (by simp; omega)) (d := .bl false) rfl]
    simp [h8]
theorem ltab_ok (h : ∀ d ∈ ds, d ∈ items) (hl : ds.length ≤ 50) : F__law_is_table [.tup ds] = bo (tabB ds) := by
  refine run_rt ?_
  show B__law_is_table [some (.tup ds)] = _
  unfold B__law_is_table tabB
  by_cases h8 : ds.length ≤ 8
  · rw [fSeq_nx (ifS_skip ((c0_of ds).trans (by simp; omega)))]
    have e1 : (fComp [] (iSeq (fVar 0)) (some (bNot (fB (fCall F__law_is_rule 1 (aCons (fVar 0) aNil))))) (fVar 0)) [some (.tup ds)] = some (.ok (.lst ((ds.filter fun d => !isR d).map id))) :=
      (comp_some (l := ds) id (fun d => !isR d) id (by rw [List.map_id]; rfl) (by omega) fun d hd => ⟨bNot_of (fB_of (call1 F__law_is_rule rfl (rl_ok (h d hd)).2.1)), rfl⟩)
    rw [List.map_id] at e1
    cases hr : ds.all isR with
    | false =>
      have hne : ∃ d r, ds.filter (fun d => !isR d) = d :: r ∧ d ∈ items ∧ ∀ x ∈ r, x ∈ items := by
        cases hf : ds.filter (fun d => !isR d) with
        | nil =>
          exfalso
          have : ds.all isR = true := by
            rw [List.all_eq_true]
            intro d hd
            cases hi : isR d with
            | true => rfl
            | false =>
              have : d ∈ ds.filter (fun d => !isR d) := List.mem_filter.mpr ⟨hd, by simp [hi]⟩
              rw [hf] at this
              simp at this
          rw [this] at hr
          cases hr
        | cons d r =>
          have hm : ∀ x ∈ d :: r, x ∈ items := fun x hx => h x (List.mem_filter.mp (hf ▸ hx)).1
          exact ⟨d, r, rfl, hm d List.mem_cons_self, fun x hx => hm x (List.mem_cons_of_mem _ hx)⟩
      obtain ⟨d, r, ef, hd, hr'⟩ := hne
      rw [ef] at e1
      have hI : It1 1 (.lst (d :: r)) := it_lst fun x hx => by
        rcases List.mem_cons.mp hx with rfl | hx
        · exact it_item hd
        · exact it_item (hr' x hx)
      have e2 : neX (.lst (d :: r)) (.lst []) = bo true := by
        unfold neX
        rw [show eqS (.lst (d :: r)) (.lst []) = none from rfl]
        dsimp only
        rw [hI.okP (by omega), show okP (.lst []) = true from rfl, if_pos (show (true && true) = true from rfl)]
        show some (Rs.ok (Dv.bl (!PyData.eqv (.list (toPy d :: toPys r)) (.list [])))) = _
        simp [PyData.eqv, PyData.eqvAll]
      rw [ifRt (fB_of ((f2_of e1 rfl).trans e2)) (d := .bl false) rfl]
      simp
    | true =>
      have ef : ds.filter (fun d => !isR d) = [] := by
        rw [List.filter_eq_nil_iff]
        intro d hd
        simp [List.all_eq_true.mp hr d hd]
      rw [ef] at e1
      have e2 : neX (.lst []) (.lst []) = bo false := by kernel_rfl
      rw [fSeq_nx (ifS_skip (fB_of ((f2_of e1 rfl).trans e2)))]
      obtain ⟨ks, rfl, hk⟩ := strs_of_M (ds := ds) fun d hd => (rl_ok (h d hd)).2.2 (List.all_eq_true.mp hr d hd)
      rw [strsOf_map]
      rw [List.length_map] at h8
      refine fRet_rt ?_
      have e3 : sortSet [.tup (ks.map Dv.str)] = some (.ok (.lst ((isortB leS (ST.ddk ks)).map Dv.str))) := by
        show (match strsOf (ks.map Dv.str) with | some ks => if ks.length ≤ 59 then (some (.ok (.lst ((isortB leS (ST.ddk ks)).map Dv.str))) : Option (Rs Dv)) else none | none => none) = _
        rw [strsOf_map]
        dsimp only
        rw [if_pos (by omega)]
      have hm : ∀ x ∈ isortB leS (ST.ddk ks), x ∈ M10s := fun x hx => hk x (mem_ddk ((isortB_perm leS _).mem_iff.mp hx))
      refine (f2_of (x := .lst (ks.map Dv.str)) rfl ((fB1_of (aCons_of (x := .tup (ks.map Dv.str)) rfl aNil_of)).trans e3)).trans ?_
      rw [eq_lst hk hm, sort_iff]
      simp [h8]
  · rw [ifRt ((c0_of ds).trans (by simp; omega)) (d := .bl false) rfl]
    simp [h8]
theorem tab_sub (h : ∀ d ∈ ds, d ∈ items) (ht : tabB ds = true) : ds ∈ subs M10 := by
  unfold tabB at ht
  simp only [Bool.and_eq_true] at ht
  obtain ⟨⟨_, hr⟩, hs⟩ := ht
  obtain ⟨ks, rfl, hk⟩ := strs_of_M (ds := ds) fun d hd => (rl_ok (h d hd)).2.2 (List.all_eq_true.mp hr d hd)
  rw [strsOf_map] at hs
  exact sub_of M10s ks M_pw (strB_pw hs) hk
end
end G
namespace G
open PySem PySem.Spec PyProof.Rows L2 FD
def op_nd : Nat → List (List Dv)
  | 0 => subs M10
  | k + 1 => (op_nd k).drop 16
theorem op_0 : ((op_nd 0).take 16).all opAll = true := by kernel_rfl
theorem op_1 : ((op_nd 1).take 16).all opAll = true := by kernel_rfl
theorem op_2 : ((op_nd 2).take 16).all opAll = true := by kernel_rfl
theorem op_3 : ((op_nd 3).take 16).all opAll = true := by kernel_rfl
theorem op_4 : ((op_nd 4).take 16).all opAll = true := by kernel_rfl
theorem op_5 : ((op_nd 5).take 16).all opAll = true := by kernel_rfl
theorem op_6 : ((op_nd 6).take 16).all opAll = true := by kernel_rfl
theorem op_7 : ((op_nd 7).take 16).all opAll = true := by kernel_rfl
theorem op_8 : ((op_nd 8).take 16).all opAll = true := by kernel_rfl
theorem op_9 : ((op_nd 9).take 16).all opAll = true := by kernel_rfl
theorem op_10 : ((op_nd 10).take 16).all opAll = true := by kernel_rfl
theorem op_11 : ((op_nd 11).take 16).all opAll = true := by kernel_rfl
theorem op_12 : ((op_nd 12).take 16).all opAll = true := by kernel_rfl
theorem op_13 : ((op_nd 13).take 16).all opAll = true := by kernel_rfl
theorem op_14 : ((op_nd 14).take 16).all opAll = true := by kernel_rfl
theorem op_15 : ((op_nd 15).take 16).all opAll = true := by kernel_rfl
theorem op_16 : ((op_nd 16).take 16).all opAll = true := by kernel_rfl
theorem op_17 : ((op_nd 17).take 16).all opAll = true := by kernel_rfl
theorem op_18 : ((op_nd 18).take 16).all opAll = true := by kernel_rfl
theorem op_19 : ((op_nd 19).take 16).all opAll = true := by kernel_rfl
theorem op_20 : ((op_nd 20).take 16).all opAll = true := by kernel_rfl
theorem op_21 : ((op_nd 21).take 16).all opAll = true := by kernel_rfl
theorem op_22 : ((op_nd 22).take 16).all opAll = true := by kernel_rfl
theorem op_23 : ((op_nd 23).take 16).all opAll = true := by kernel_rfl
theorem op_24 : ((op_nd 24).take 16).all opAll = true := by kernel_rfl
theorem op_25 : ((op_nd 25).take 16).all opAll = true := by kernel_rfl
theorem op_26 : ((op_nd 26).take 16).all opAll = true := by kernel_rfl
theorem op_27 : ((op_nd 27).take 16).all opAll = true := by kernel_rfl
theorem op_28 : ((op_nd 28).take 16).all opAll = true := by kernel_rfl
theorem op_29 : ((op_nd 29).take 16).all opAll = true := by kernel_rfl
theorem op_30 : ((op_nd 30).take 16).all opAll = true := by kernel_rfl
theorem op_31 : ((op_nd 31).take 16).all opAll = true := by kernel_rfl
theorem op_32 : ((op_nd 32).take 16).all opAll = true := by kernel_rfl
theorem op_33 : ((op_nd 33).take 16).all opAll = true := by kernel_rfl
theorem op_34 : ((op_nd 34).take 16).all opAll = true := by kernel_rfl
theorem op_35 : ((op_nd 35).take 16).all opAll = true := by kernel_rfl
theorem op_36 : ((op_nd 36).take 16).all opAll = true := by kernel_rfl
theorem op_37 : ((op_nd 37).take 16).all opAll = true := by kernel_rfl
theorem op_38 : ((op_nd 38).take 16).all opAll = true := by kernel_rfl
theorem op_39 : ((op_nd 39).take 16).all opAll = true := by kernel_rfl
theorem op_40 : ((op_nd 40).take 16).all opAll = true := by kernel_rfl
theorem op_41 : ((op_nd 41).take 16).all opAll = true := by kernel_rfl
theorem op_42 : ((op_nd 42).take 16).all opAll = true := by kernel_rfl
theorem op_43 : ((op_nd 43).take 16).all opAll = true := by kernel_rfl
theorem op_44 : ((op_nd 44).take 16).all opAll = true := by kernel_rfl
theorem op_45 : ((op_nd 45).take 16).all opAll = true := by kernel_rfl
theorem op_46 : ((op_nd 46).take 16).all opAll = true := by kernel_rfl
theorem op_47 : ((op_nd 47).take 16).all opAll = true := by kernel_rfl
theorem op_48 : ((op_nd 48).take 16).all opAll = true := by kernel_rfl
theorem op_49 : ((op_nd 49).take 16).all opAll = true := by kernel_rfl
theorem op_50 : ((op_nd 50).take 16).all opAll = true := by kernel_rfl
theorem op_51 : ((op_nd 51).take 16).all opAll = true := by kernel_rfl
theorem op_52 : ((op_nd 52).take 16).all opAll = true := by kernel_rfl
theorem op_53 : ((op_nd 53).take 16).all opAll = true := by kernel_rfl
theorem op_54 : ((op_nd 54).take 16).all opAll = true := by kernel_rfl
theorem op_55 : ((op_nd 55).take 16).all opAll = true := by kernel_rfl
theorem op_56 : ((op_nd 56).take 16).all opAll = true := by kernel_rfl
theorem op_57 : ((op_nd 57).take 16).all opAll = true := by kernel_rfl
theorem op_58 : ((op_nd 58).take 16).all opAll = true := by kernel_rfl
theorem op_59 : ((op_nd 59).take 16).all opAll = true := by kernel_rfl
theorem op_60 : ((op_nd 60).take 16).all opAll = true := by kernel_rfl
theorem op_61 : ((op_nd 61).take 16).all opAll = true := by kernel_rfl
theorem op_62 : ((op_nd 62).take 16).all opAll = true := by kernel_rfl
theorem op_63 : ((op_nd 63).take 16).all opAll = true := by kernel_rfl
theorem op_all : (subs M10).all opAll = true := (all_cut (l := op_nd 0) 16 op_0 (all_cut (l := op_nd 1) 16 op_1 (all_cut (l := op_nd 2) 16 op_2 (all_cut (l := op_nd 3) 16 op_3 (all_cut (l := op_nd 4) 16 op_4 (all_cut (l := op_nd 5) 16 op_5 (all_cut (l := op_nd 6) 16 op_6 (all_cut (l := op_nd 7) 16 op_7 (all_cut (l := op_nd 8) 16 op_8 (all_cut (l := op_nd 9) 16 op_9 (all_cut (l := op_nd 10) 16 op_10 (all_cut (l := op_nd 11) 16 op_11 (all_cut (l := op_nd 12) 16 op_12 (all_cut (l := op_nd 13) 16 op_13 (all_cut (l := op_nd 14) 16 op_14 (all_cut (l := op_nd 15) 16 op_15 (all_cut (l := op_nd 16) 16 op_16 (all_cut (l := op_nd 17) 16 op_17 (all_cut (l := op_nd 18) 16 op_18 (all_cut (l := op_nd 19) 16 op_19 (all_cut (l := op_nd 20) 16 op_20 (all_cut (l := op_nd 21) 16 op_21 (all_cut (l := op_nd 22) 16 op_22 (all_cut (l := op_nd 23) 16 op_23 (all_cut (l := op_nd 24) 16 op_24 (all_cut (l := op_nd 25) 16 op_25 (all_cut (l := op_nd 26) 16 op_26 (all_cut (l := op_nd 27) 16 op_27 (all_cut (l := op_nd 28) 16 op_28 (all_cut (l := op_nd 29) 16 op_29 (all_cut (l := op_nd 30) 16 op_30 (all_cut (l := op_nd 31) 16 op_31 (all_cut (l := op_nd 32) 16 op_32 (all_cut (l := op_nd 33) 16 op_33 (all_cut (l := op_nd 34) 16 op_34 (all_cut (l := op_nd 35) 16 op_35 (all_cut (l := op_nd 36) 16 op_36 (all_cut (l := op_nd 37) 16 op_37 (all_cut (l := op_nd 38) 16 op_38 (all_cut (l := op_nd 39) 16 op_39 (all_cut (l := op_nd 40) 16 op_40 (all_cut (l := op_nd 41) 16 op_41 (all_cut (l := op_nd 42) 16 op_42 (all_cut (l := op_nd 43) 16 op_43 (all_cut (l := op_nd 44) 16 op_44 (all_cut (l := op_nd 45) 16 op_45 (all_cut (l := op_nd 46) 16 op_46 (all_cut (l := op_nd 47) 16 op_47 (all_cut (l := op_nd 48) 16 op_48 (all_cut (l := op_nd 49) 16 op_49 (all_cut (l := op_nd 50) 16 op_50 (all_cut (l := op_nd 51) 16 op_51 (all_cut (l := op_nd 52) 16 op_52 (all_cut (l := op_nd 53) 16 op_53 (all_cut (l := op_nd 54) 16 op_54 (all_cut (l := op_nd 55) 16 op_55 (all_cut (l := op_nd 56) 16 op_56 (all_cut (l := op_nd 57) 16 op_57 (all_cut (l := op_nd 58) 16 op_58 (all_cut (l := op_nd 59) 16 op_59 (all_cut (l := op_nd 60) 16 op_60 (all_cut (l := op_nd 61) 16 op_61 (all_cut (l := op_nd 62) 16 op_62 (all_cut (l := op_nd 63) 16 op_63 (show (op_nd 64).all opAll = true by kernel_rfl)))))))))))))))))))))))))))))))))))))))))))))))))))))))))))))))))
theorem op_ok {t : List Dv} (ht : t ∈ subs M10) {n : Str} (hn : n ∈ menu) : ∃ m o, F_find_open_end [.tup t, .str n] = some (.ok (.str m)) ∧ F__law_open [.tup t, .str n] = some (.ok (.str m)) ∧ It1 0 (.str m) ∧ It1 0 o ∧ F_find_own_end [.tup t, .str n] = some (.ok o) ∧ F__law_own [.tup t, .str n] = some (.ok o) := by
  have h := all_mem (show (menu.all fun n => opOk t n) = true from all_mem op_all ht) hn
  unfold opOk at h
  split at h
  · rename_i m m' h1 h2 h3 h4
    rw [Bool.and_eq_true] at h
    have e := seq_true h.1
    subst e
    exact ⟨m, _, h1, h2, it_str h.2, it_non, h3, h4⟩
  · rename_i m m' z z' h1 h2 h3 h4
    simp only [Bool.and_eq_true] at h
    have e := seq_true h.1.1
    have e' := seq_true h.2.1
    subst e e'
    exact ⟨m, _, h1, h2, it_str h.1.2, it_str h.2.2, h3, h4⟩
  · cases h
end G
namespace G
open PySem PySem.Spec PyProof.Rows L2 FD
structure Th (r b : Bool) (d : Dv) : Prop where
  rl : F_is_rule [d] = bo r
  lr : F__law_is_rule [d] = bo r
  tb : F_is_table [d] = bo b
  lt : F__law_is_table [d] = bo b
  sub : b = true → ∃ t ∈ subs M10, d = .tup t
theorem th_tup {ds : List Dv} (h : ∀ d ∈ ds, d ∈ items) (hl : ds.length ≤ 50) : Th false (tabB ds) (.tup ds) :=
  ⟨rfl, rfl, tab_ok h hl, ltab_ok h hl, fun z => ⟨ds, tab_sub h z, rfl⟩⟩
theorem th_lst (ds : List Dv) : Th false false (.lst ds) := ⟨rfl, rfl, rfl, rfl, fun z => by cases z⟩
theorem odd_all : (odds.all fun d => okF (F_is_table [d]) && okF (F__law_is_table [d])) = true := by kernel_rfl
theorem th_odd {d : Dv} (h : d ∈ odds) : Th (isR d) false d := by
  have q := all_mem (p := fun d => okF (F_is_table [d]) && okF (F__law_is_table [d])) odd_all h
  rw [Bool.and_eq_true] at q
  obtain ⟨h1, h2, _⟩ := rl_ok (d := d) (by unfold items; exact List.mem_append_right _ h)
  exact ⟨h1, h2, okF_eq q.1, okF_eq q.2, fun z => by cases z⟩
theorem th_nine : Th false false (.tup [.str "a", .str "b", .str "c", .str "d", .str "e", .str "f", .str "g", .str "h", .str "i"]) := ⟨rfl, rfl, by kernel_rfl, by kernel_rfl, fun z => by cases z⟩
theorem subs_mem : ∀ {l t : List Dv}, t ∈ subs l → ∀ d ∈ t, d ∈ l
  | [], t, h, d, hd => by simp [subs] at h; subst h; simp at hd
  | x :: r, t, h, d, hd => by
    simp only [subs, List.mem_append, List.mem_map] at h
    rcases h with ⟨u, hu, rfl⟩ | h
    · rcases List.mem_cons.mp hd with rfl | hd
      · exact List.mem_cons_self
      · exact List.mem_cons_of_mem _ (subs_mem hu d hd)
    · exact List.mem_cons_of_mem _ (subs_mem h d hd)
theorem ref1 : FM__law_refused [.exn 1] = some (.ok (.tup [.str "refused", .int 1])) := by kernel_rfl
theorem ref0 : FM__law_refused [.exn 0] = some (.ok (.tup [.str "refused", .int 0])) := by kernel_rfl
section
variable {T N d : Dv} {c : Nat}
theorem nt_y (h : F_is_table [T] = bo true) : FX_need_table [T] = some (.ok .non) := by simp [FX_need_table, runE, BX_need_table, fSeq, sq, fIfS, fRet, fRetN, fDrop, fSet, bndS, bnd, bOr, bAnd, bNot, fB, toB, fCall, fCallE, aCons, aNil, fVar, fC, f1, f2, ixD, atD, vOr, vAnd, vNot, fIf, fTup, fLst, fB1, fM, fRaise, fNever, isN, notN, isiD, tbBool, tbTup, tbStr, tbInt, h]
theorem nt_n (h : F_is_table [T] = bo false) : FX_need_table [T] = some (.exc 1) := by simp [FX_need_table, runE, BX_need_table, fSeq, sq, fIfS, fRet, fRetN, fDrop, fSet, bndS, bnd, bOr, bAnd, bNot, fB, toB, fCall, fCallE, aCons, aNil, fVar, fC, f1, f2, ixD, atD, vOr, vAnd, vNot, fIf, fTup, fLst, fB1, fM, fRaise, fNever, isN, notN, isiD, tbBool, tbTup, tbStr, tbInt, h]
theorem nn_y (h : F_is_name [N] = bo true) : FX_need_name [N] = some (.ok .non) := by simp [FX_need_name, runE, BX_need_name, fSeq, sq, fIfS, fRet, fRetN, fDrop, fSet, bndS, bnd, bOr, bAnd, bNot, fB, toB, fCall, fCallE, aCons, aNil, fVar, fC, f1, f2, ixD, atD, vOr, vAnd, vNot, fIf, fTup, fLst, fB1, fM, fRaise, fNever, isN, notN, isiD, tbBool, tbTup, tbStr, tbInt, h]
theorem nn_n (h : F_is_name [N] = bo false) : FX_need_name [N] = some (.exc 0) := by simp [FX_need_name, runE, BX_need_name, fSeq, sq, fIfS, fRet, fRetN, fDrop, fSet, bndS, bnd, bOr, bAnd, bNot, fB, toB, fCall, fCallE, aCons, aNil, fVar, fC, f1, f2, ixD, atD, vOr, vAnd, vNot, fIf, fTup, fLst, fB1, fM, fRaise, fNever, isN, notN, isiD, tbBool, tbTup, tbStr, tbInt, h]
theorem told0 (hy : FX_open_end [T, N] = some (.ok d)) : F__law_told [.int 0, T, N] = some (.ok d) := by
  simp [F__law_told, runF, B__law_told, fTry, fSeq, sq, fIfS, fRet, fRetN, fDrop, fSet, bndS, bnd, bOr, bAnd, bNot, fB, toB, fCall, fCallE, aCons, aNil, fVar, fC, f1, f2, ixD, atD, vOr, vAnd, vNot, fIf, fTup, fLst, fB1, fM, fRaise, fNever, isN, notN, isiD, tbBool, tbTup, tbStr, tbInt, eqX, eqS, hy]
theorem told1 (hy : FX_own_end [T, N] = some (.ok d)) : F__law_told [.int 1, T, N] = some (.ok d) := by
  simp [F__law_told, runF, B__law_told, fTry, fSeq, sq, fIfS, fRet, fRetN, fDrop, fSet, bndS, bnd, bOr, bAnd, bNot, fB, toB, fCall, fCallE, aCons, aNil, fVar, fC, f1, f2, ixD, atD, vOr, vAnd, vNot, fIf, fTup, fLst, fB1, fM, fRaise, fNever, isN, notN, isiD, tbBool, tbTup, tbStr, tbInt, eqX, eqS, hy]
theorem told0x (hy : FX_open_end [T, N] = some (.exc c)) (hc : c < 7) (hr : FM__law_refused [.exn c] = some (.ok d)) : F__law_told [.int 0, T, N] = some (.ok d) := by
  simp [F__law_told, runF, B__law_told, fTry, fSeq, sq, fIfS, fRet, fRetN, fDrop, fSet, bndS, bnd, bOr, bAnd, bNot, fB, toB, fCall, fCallE, aCons, aNil, fVar, fC, f1, f2, ixD, atD, vOr, vAnd, vNot, fIf, fTup, fLst, fB1, fM, fRaise, fNever, isN, notN, isiD, tbBool, tbTup, tbStr, tbInt, eqX, eqS, hy, hc, hr]
theorem told1x (hy : FX_own_end [T, N] = some (.exc c)) (hc : c < 7) (hr : FM__law_refused [.exn c] = some (.ok d)) : F__law_told [.int 1, T, N] = some (.ok d) := by
  simp [F__law_told, runF, B__law_told, fTry, fSeq, sq, fIfS, fRet, fRetN, fDrop, fSet, bndS, bnd, bOr, bAnd, bNot, fB, toB, fCall, fCallE, aCons, aNil, fVar, fC, f1, f2, ixD, atD, vOr, vAnd, vNot, fIf, fTup, fLst, fB1, fM, fRaise, fNever, isN, notN, isiD, tbBool, tbTup, tbStr, tbInt, eqX, eqS, hy, hc, hr]
theorem bad_t (h : F_is_table [T] = bo false) : ∀ k ∈ ([0, 1] : List Int), F__law_told [.int k, T, N] = some (.ok (.tup [.str "refused", .int 1])) := by
  have e := nt_n h
  intro k hk
  simp only [List.mem_cons, List.not_mem_nil, or_false] at hk
  rcases hk with rfl | rfl
  · exact told0x (c := 1) (by simp [FX_open_end, runE, BX_open_end, fSeq, sq, fIfS, fRet, fRetN, fDrop, fSet, bndS, bnd, bOr, bAnd, bNot, fB, toB, fCall, fCallE, aCons, aNil, fVar, fC, f1, f2, ixD, atD, vOr, vAnd, vNot, fIf, fTup, fLst, fB1, fM, fRaise, fNever, isN, notN, isiD, tbBool, tbTup, tbStr, tbInt, e]) (by decide) ref1
  · exact told1x (c := 1) (by simp [FX_own_end, runE, BX_own_end, fSeq, sq, fIfS, fRet, fRetN, fDrop, fSet, bndS, bnd, bOr, bAnd, bNot, fB, toB, fCall, fCallE, aCons, aNil, fVar, fC, f1, f2, ixD, atD, vOr, vAnd, vNot, fIf, fTup, fLst, fB1, fM, fRaise, fNever, isN, notN, isiD, tbBool, tbTup, tbStr, tbInt, e]) (by decide) ref1
theorem bad_n (ht : F_is_table [T] = bo true) (h : F_is_name [N] = bo false) : ∀ k ∈ ([0, 1] : List Int), F__law_told [.int k, T, N] = some (.ok (.tup [.str "refused", .int 0])) := by
  have e0 := nt_y ht
  have e := nn_n h
  intro k hk
  simp only [List.mem_cons, List.not_mem_nil, or_false] at hk
  rcases hk with rfl | rfl
  · exact told0x (c := 0) (by simp [FX_open_end, runE, BX_open_end, fSeq, sq, fIfS, fRet, fRetN, fDrop, fSet, bndS, bnd, bOr, bAnd, bNot, fB, toB, fCall, fCallE, aCons, aNil, fVar, fC, f1, f2, ixD, atD, vOr, vAnd, vNot, fIf, fTup, fLst, fB1, fM, fRaise, fNever, isN, notN, isiD, tbBool, tbTup, tbStr, tbInt, e0, e]) (by decide) ref0
  · exact told1x (c := 0) (by simp [FX_own_end, runE, BX_own_end, fSeq, sq, fIfS, fRet, fRetN, fDrop, fSet, bndS, bnd, bOr, bAnd, bNot, fB, toB, fCall, fCallE, aCons, aNil, fVar, fC, f1, f2, ixD, atD, vOr, vAnd, vNot, fIf, fTup, fLst, fB1, fM, fRaise, fNever, isN, notN, isiD, tbBool, tbTup, tbStr, tbInt, e0, e]) (by decide) ref0
end
theorem name_all : (menu.all fun n => okY (F_is_name [.str n])) = true := by kernel_rfl
theorem nm_y {n : Str} (h : n ∈ menu) : F_is_name [.str n] = bo true := okY_eq (all_mem (p := fun n => okY (F_is_name [.str n])) name_all h)
theorem good {t : List Dv} (hs : t ∈ subs M10) (ht : F_is_table [.tup t] = bo true) {n : Str} (hn : n ∈ menu) : ∃ m o, It1 0 (.str m) ∧ It1 0 o ∧ F__law_open [.tup t, .str n] = some (.ok (.str m)) ∧ F__law_own [.tup t, .str n] = some (.ok o) ∧ F__law_told [.int 0, .tup t, .str n] = some (.ok (.str m)) ∧ F__law_told [.int 1, .tup t, .str n] = some (.ok o) := by
  obtain ⟨m, o, h1, h2, h3, h3', h4, h5⟩ := op_ok hs hn
  have e0 := nt_y ht
  have e1 := nn_y (nm_y hn)
  exact ⟨m, o, h3, h3', h2, h5, told0 (by simp [FX_open_end, runE, BX_open_end, fSeq, sq, fIfS, fRet, fRetN, fDrop, fSet, bndS, bnd, bOr, bAnd, bNot, fB, toB, fCall, fCallE, aCons, aNil, fVar, fC, f1, f2, ixD, atD, vOr, vAnd, vNot, fIf, fTup, fLst, fB1, fM, fRaise, fNever, isN, notN, isiD, tbBool, tbTup, tbStr, tbInt, e0, e1, h1]), told1 (by simp [FX_own_end, runE, BX_own_end, fSeq, sq, fIfS, fRet, fRetN, fDrop, fSet, bndS, bnd, bOr, bAnd, bNot, fB, toB, fCall, fCallE, aCons, aNil, fVar, fC, f1, f2, ixD, atD, vOr, vAnd, vNot, fIf, fTup, fLst, fB1, fM, fRaise, fNever, isN, notN, isiD, tbBool, tbTup, tbStr, tbInt, e0, e1, h4])⟩
theorem rng01 (E : Ev) : (fun ρ => bnd ((aCons (fC (.int 2)) aNil) ρ) rng1) E = some (.ok (([0, 1] : List Int).map Dv.int)) := by
  refine (bnd_ok (k := rng1) (a := [.int ((2 : Nat) : Int)]) rfl).trans ?_
  rw [rng1_n (by omega)]
  rfl
theorem rng012 (E : Ev) : (fun ρ => bnd ((aCons (fC (.int 3)) aNil) ρ) rng1) E = some (.ok [.int 0, .int 1, .int 2]) := by
  refine (bnd_ok (k := rng1) (a := [.int ((3 : Nat) : Int)]) rfl).trans ?_
  rw [rng1_n (by omega)]
  rfl
theorem it_ref (i : Int) : It1 1 (.tup [.str "refused", .int i]) := by
  refine it_tup fun d hd => ?_
  simp only [List.mem_cons, List.not_mem_nil, or_false] at hd
  rcases hd with rfl | rfl
  · exact it_str (by kernel_rfl)
  · exact it_int
theorem it_ref2 (i : Int) : It1 2 (.lst [.tup [.str "refused", .int i], .tup [.str "refused", .int i]]) := it_lst fun d hd => by
  simp only [List.mem_cons, List.not_mem_nil, or_false] at hd
  rcases hd with rfl | rfl <;> exact it_ref i
end G
namespace G
open PySem PySem.Spec PyProof.Rows L2 FD
theorem fFor_of {i : Nat} {js : List Nat} {src : FnA} {body : FnS} {ρ : Ev} {ds : List Dv} {r : Option Fl} (hs : src ρ = some (.ok ds)) (h : loopF i js body ds ρ = r) : fFor i js src body ρ = r := by
  unfold fFor
  rw [hs]
  exact h
theorem ix_mem {l : List Dv} {d : Int} (h0 : 0 ≤ d) (h1 : d < l.length) : ∃ x ∈ l, ixD (.lst l) (.int d) = some (.ok x) := by
  have h2 : d.toNat < l.length := by omega
  refine ⟨l[d.toNat], List.getElem_mem h2, ?_⟩
  show (match atD l d with | some d => _ | none => _) = _
  unfold atD
  rw [if_pos h0, List.getElem?_eq_getElem h2]
def R2 (i : Int) : Dv := .lst [.tup [.str "refused", .int i], .tup [.str "refused", .int i]]
theorem it_two {a b : Dv} {k : Nat} (ha : It1 k a) (hb : It1 k b) : It1 (k + 1) (.lst [a, b]) := it_lst fun d hd => by
  simp only [List.mem_cons, List.not_mem_nil, or_false] at hd
  rcases hd with rfl | rfl
  · exact ha
  · exact hb
section
variable {ns : List Int} {T A S O L d : Dv} {r b : Bool}
abbrev E7 (ns : List Int) (T A S O L d : Dv) (r b : Bool) (x y z : Option Dv) : Ev := [some (.scr ns), some T, some A, some S, some O, some L, some d, some (.lst [.bl r, .bl b]), x, y, z, none, none]
theorem in_ok (hl : ns.length ≤ 63) (h : Th r b d) (k : Int) : ∃ n due, b_law_0 (E7 ns T A S O L d r b (some (.int k)) none none) = some (.nx (E7 ns T A S O L d r b (some (.int k)) (some n) (some due))) := by
  obtain ⟨n, hn, en⟩ := name_ok ns hl (20 + k)
  have v5 : v_law_5 (E7 ns T A S O L d r b (some (.int k)) none none) = some (.ok (.str n)) := call2 F__law_name rfl rfl en
  have key : ∃ due, It1 3 due ∧ v_law_6 (E7 ns T A S O L d r b (some (.int k)) (some (.str n)) none) = some (.ok due) ∧
      (fComp [("_law_thing", 6), ("_law_name_here", 9)] (fun ρ => bnd ((aCons (fC (.int 2)) aNil) ρ) rng1) none (fCall F__law_told 3 (aCons (fVar 0) (aCons (fVar 1) (aCons (fVar 2) aNil))))) (E7 ns T A S O L d r b (some (.int k)) (some (.str n)) (some due)) = some (.ok due) := by
    cases b with
    | true =>
      obtain ⟨t, ht, rfl⟩ := h.sub rfl
      obtain ⟨m, o, i1, i2, h1, h2, h3, h4⟩ := good ht h.tb hn
      refine ⟨.lst [.str m, o], (it_two i1 i2).le (by omega), ?_, ?_⟩
      · unfold v_law_6
        rw [fIf_T (by rfl)]
        exact fLst_of (aCons_of (call2 F__law_open rfl rfl h1) (aCons_of (call2 F__law_own rfl rfl h2) aNil_of)) (by show 2 ≤ 100000; decide)
      · refine (comp_all (l := ([0, 1] : List Int)) Dv.int (fun k => if k = 0 then .str m else o) (rng01 _) (by decide) fun k hk => call3 F__law_told rfl rfl rfl (d := if k = 0 then .str m else o) ?_).trans rfl
        simp only [List.mem_cons, List.not_mem_nil, or_false] at hk
        rcases hk with rfl | rfl
        · exact h3
        · exact h4
    | false =>
      refine ⟨R2 1, (it_ref2 1).le (by omega), ?_, ?_⟩
      · unfold v_law_6
        rw [fIf_F (by rfl)]
        kernel_rfl
      · exact comp_all (l := ([0, 1] : List Int)) Dv.int (fun _ => .tup [.str "refused", .int 1]) (rng01 _) (by decide) fun k hk => call3 F__law_told rfl rfl rfl (bad_t h.tb k hk)
  obtain ⟨due, hI, v6, hc⟩ := key
  refine ⟨.str n, due, ?_⟩
  unfold b_law_0
  rw [fSeq_nx (fSet_nx v5 rfl)]
  simp only [List.set_cons_succ, List.set_cons_zero]
  rw [fSeq_nx (fSet_nx v6 rfl)]
  simp only [List.set_cons_succ, List.set_cons_zero]
  exact ifS_skip (fB_of ((f2_of hc rfl).trans (it_ne hI (by omega))))
theorem body_ok (hl : ns.length ≤ 63) (h : Th r b d) : b_law_1 [some (.scr ns), some T, some A, some S, some O, some L, some d, none, none, none, none, none, none] = some (.nx (E7 ns T A S O L d r b none none none)) := by
  have v4 : v_law_4 [some (.scr ns), some T, some A, some S, some O, some L, some d, none, none, none, none, none, none] = some (.ok (.lst [.bl r, .bl b])) := fLst_of (aCons_of (call1 F_is_rule rfl h.rl) (aCons_of (call1 F_is_table rfl h.tb) aNil_of)) (by show 2 ≤ 100000; decide)
  have c0 : c_law_0 (E7 ns T A S O L d r b none none none) = some (.ok false) :=
    fB_of ((f2_of (x := .lst [.bl r, .bl b]) (y := .lst [.bl r, .bl b]) rfl (fLst_of (aCons_of (call1 F__law_is_rule rfl h.lr) (aCons_of (call1 F__law_is_table rfl h.lt) aNil_of)) (by show 2 ≤ 100000; decide))).trans (it_ne (it_two (it_bl (i := r)) (it_bl (i := b))) (by omega)))
  have c1 : c_law_1 (E7 ns T A S O L d r b none none none) = some (.ok false) := by
    unfold c_law_1
    cases b with
    | true => exact bAnd_F rfl
    | false =>
      rw [bAnd_T (by rfl)]
      refine fB_of ((f2_of (x := R2 1) (y := R2 1) ?_ (by kernel_rfl)).trans (it_ne (it_ref2 1) (by omega)))
      exact comp_all (l := ([0, 1] : List Int)) Dv.int (fun _ => .tup [.str "refused", .int 1]) (rng01 _) (by decide) fun k hk => call3 F__law_told rfl rfl rfl (bad_t h.tb k hk)
  unfold b_law_1
  rw [fSeq_nx (fSet_nx v4 rfl)]
  simp only [List.set_cons_succ, List.set_cons_zero]
  rw [fSeq_nx (ifS_skip c0), fSeq_nx (ifS_skip c1)]
  refine fFor_of (rng012 _) (loopF_const (ρ := E7 ns T A S O L d r b none none none) (fun x hx => ?_) _ rfl)
  simp only [List.mem_cons, List.not_mem_nil, or_false] at hx
  rcases hx with rfl | rfl | rfl
  · obtain ⟨n, due, e⟩ := in_ok (T := T) (A := A) (S := S) (O := O) (L := L) hl h 0
    exact ⟨_, e, rfl⟩
  · obtain ⟨n, due, e⟩ := in_ok (T := T) (A := A) (S := S) (O := O) (L := L) hl h 1
    exact ⟨_, e, rfl⟩
  · obtain ⟨n, due, e⟩ := in_ok (T := T) (A := A) (S := S) (O := O) (L := L) hl h 2
    exact ⟨_, e, rfl⟩
end
def more : List Dv := [.str "*.A", .str "*.Ak", .str "!A", .str "*.-b", .str "!-b", .str "*.b.", .str "*.b", .str "*.ab", .str "!ab"]
theorem loop2 (ns : List Int) (T A O L : Dv) : ∀ x ∈ odds ++ more, ∃ ρ', b_law_2 [some (.scr ns), some T, some A, some (.lst odds), some O, some L, none, none, none, none, none, some x, none] = some (.nx ρ') ∧ fgt [11] ρ' = [some (.scr ns), some T, some A, some (.lst odds), some O, some L, none, none, none, none, none, none, none] := by
  intro x hx
  refine ⟨_, ifS_skip (?_ : c_law_3 [some (.scr ns), some T, some A, some (.lst odds), some O, some L, none, none, none, none, none, some x, none] = some (.ok false)), rfl⟩
  have e : ((odds ++ more).all fun x => match c_law_3 [none, none, none, none, none, none, none, none, none, none, none, some x, none] with | some (.ok false) => true | _ => false) = true := by kernel_rfl
  have q := all_mem (p := fun x => match c_law_3 [none, none, none, none, none, none, none, none, none, none, none, some x, none] with | some (.ok false) => true | _ => false) e hx
  have e2 : c_law_3 [some (.scr ns), some T, some A, some (.lst odds), some O, some L, none, none, none, none, none, some x, none] = c_law_3 [none, none, none, none, none, none, none, none, none, none, none, some x, none] := by kernel_rfl
  rw [e2]
  split at q
  · assumption
  · cases q
end G
namespace G
open PySem PySem.Spec PyProof.Rows L2 FD
theorem table_all : ((subs rules).all fun t => okY (F_is_table [.tup t])) = true := by kernel_rfl
theorem table_yes {t : List Dv} (ht : t ∈ subs rules) : F_is_table [.tup t] = bo true := okY_eq (all_mem (p := fun t => okY (F_is_table [.tup t])) table_all ht)
def nine : Dv := .tup [.str "a", .str "b", .str "c", .str "d", .str "e", .str "f", .str "g", .str "h", .str "i"]
def restB : FnS := (fSeq (fFor 6 [6, 7, 8, 9, 10] (iSeq (f2 addT (fVar 5) (fLst (aCons (fC .non) (aCons (fTup aNil) (aCons (f2 addT (fVar 1) (fVar 1)) (aCons (fVar 4) (aCons (fTup (aCons (fC (.str "a")) (aCons (fC (.str "b")) (aCons (fC (.str "c")) (aCons (fC (.str "d")) (aCons (fC (.str "e")) (aCons (fC (.str "f")) (aCons (fC (.str "g")) (aCons (fC (.str "h")) (aCons (fC (.str "i")) aNil)))))))))) aNil)))))))) b_law_1) (fSeq (fFor 11 [11] (iSeq (f2 addT (fVar 3) (fLst (aCons (fC (.str "*.A")) (aCons (fC (.str "*.Ak")) (aCons (fC (.str "!A")) (aCons (fC (.str "*.-b")) (aCons (fC (.str "!-b")) (aCons (fC (.str "*.b.")) (aCons (fC (.str "*.b")) (aCons (fC (.str "*.ab")) (aCons (fC (.str "!ab")) aNil)))))))))))) b_law_2) (fSeq (fSet 12 v_law_7) (fRet r_law_0))))
section
variable {ns : List Int} {t : List Dv} {A O : Dv} {ls : List Dv}
theorem rest_ok (hl : ns.length ≤ 63) (ht : t ∈ subs rules) (hO : O ∈ odds) (hls : ∀ d ∈ ls, ∃ r b, Th r b d) (hn : ls.length ≤ 20) :
    restB [some (.scr ns), some (.tup t), some A, some (.lst odds), some O, some (.lst ls), none, none, none, none, none, none, none] = some (.rt (.bl true)) := by
  have hlt : t.length ≤ 8 := by have := subs_len ht; have : rules.length = 8 := rfl; omega
  have hti : ∀ d ∈ t, d ∈ items := fun d hd => List.mem_append_left _ (subs_mem ht d hd)
  have e1 : (iSeq (f2 addT (fVar 5) (fLst (aCons (fC .non) (aCons (fTup aNil) (aCons (f2 addT (fVar 1) (fVar 1)) (aCons (fVar 4) (aCons (fTup (aCons (fC (.str "a")) (aCons (fC (.str "b")) (aCons (fC (.str "c")) (aCons (fC (.str "d")) (aCons (fC (.str "e")) (aCons (fC (.str "f")) (aCons (fC (.str "g")) (aCons (fC (.str "h")) (aCons (fC (.str "i")) aNil)))))))))) aNil)))))))) [some (.scr ns), some (.tup t), some A, some (.lst odds), some O, some (.lst ls), none, none, none, none, none, none, none] = some (.ok (ls ++ [.non, .tup [], .tup (t ++ t), O, nine])) := by
    have q1 : f2 addT (fVar 1) (fVar 1) [some (.scr ns), some (.tup t), some A, some (.lst odds), some O, some (.lst ls), none, none, none, none, none, none, none] = some (.ok (.tup (t ++ t))) := by
      refine (f2_of (x := .tup t) (y := .tup t) rfl rfl).trans ?_
      show (if _ then _ else _) = _
      rw [if_pos (by omega)]
    have q2 : f2 addT (fVar 5) (fLst (aCons (fC .non) (aCons (fTup aNil) (aCons (f2 addT (fVar 1) (fVar 1)) (aCons (fVar 4) (aCons (fTup (aCons (fC (.str "a")) (aCons (fC (.str "b")) (aCons (fC (.str "c")) (aCons (fC (.str "d")) (aCons (fC (.str "e")) (aCons (fC (.str "f")) (aCons (fC (.str "g")) (aCons (fC (.str "h")) (aCons (fC (.str "i")) aNil)))))))))) aNil)))))) [some (.scr ns), some (.tup t), some A, some (.lst odds), some O, some (.lst ls), none, none, none, none, none, none, none] = some (.ok (.lst (ls ++ [.non, .tup [], .tup (t ++ t), O, nine]))) := by
      refine (f2_of (x := .lst ls) (y := .lst [.non, .tup [], .tup (t ++ t), O, nine]) rfl (fLst_of (aCons_of rfl (aCons_of (x := .tup []) (by kernel_rfl) (aCons_of q1 (aCons_of rfl (aCons_of (x := nine) (by kernel_rfl) aNil_of))))) (by show 5 ≤ 100000; decide))).trans ?_
      show (if _ then _ else _) = _
      rw [if_pos (by show ls.length + 5 ≤ 100000; omega)]
    unfold iSeq
    rw [q2]
    rfl
  unfold restB
  have l1 : fFor 6 [6, 7, 8, 9, 10] (iSeq (f2 addT (fVar 5) (fLst (aCons (fC .non) (aCons (fTup aNil) (aCons (f2 addT (fVar 1) (fVar 1)) (aCons (fVar 4) (aCons (fTup (aCons (fC (.str "a")) (aCons (fC (.str "b")) (aCons (fC (.str "c")) (aCons (fC (.str "d")) (aCons (fC (.str "e")) (aCons (fC (.str "f")) (aCons (fC (.str "g")) (aCons (fC (.str "h")) (aCons (fC (.str "i")) aNil)))))))))) aNil)))))))) b_law_1 [some (.scr ns), some (.tup t), some A, some (.lst odds), some O, some (.lst ls), none, none, none, none, none, none, none] = some (.nx [some (.scr ns), some (.tup t), some A, some (.lst odds), some O, some (.lst ls), none, none, none, none, none, none, none]) := by
    refine fFor_of e1 (loopF_const (ρ := [some (.scr ns), some (.tup t), some A, some (.lst odds), some O, some (.lst ls), none, none, none, none, none, none, none]) (fun x hx => ?_) _ rfl)
    have hx' : ∃ r b, Th r b x := by
      rcases List.mem_append.mp hx with hx | hx
      · exact hls x hx
      · simp only [List.mem_cons, List.not_mem_nil, or_false] at hx
        rcases hx with rfl | rfl | rfl | rfl | rfl
        · exact ⟨_, _, th_odd (d := .non) (by simp [odds])⟩
        · exact ⟨_, _, th_tup (ds := []) (by simp) (by simp)⟩
        · exact ⟨_, _, th_tup (ds := t ++ t) (fun d hd => hti d (by simpa using hd)) (by simp; omega)⟩
        · exact ⟨_, _, th_odd hO⟩
        · exact ⟨_, _, th_nine⟩
    obtain ⟨r, b, h⟩ := hx'
    exact ⟨_, body_ok hl h, rfl⟩
  rw [fSeq_nx l1]
  have l2 : fFor 11 [11] (iSeq (f2 addT (fVar 3) (fLst (aCons (fC (.str "*.A")) (aCons (fC (.str "*.Ak")) (aCons (fC (.str "!A")) (aCons (fC (.str "*.-b")) (aCons (fC (.str "!-b")) (aCons (fC (.str "*.b.")) (aCons (fC (.str "*.b")) (aCons (fC (.str "*.ab")) (aCons (fC (.str "!ab")) aNil)))))))))))) b_law_2 [some (.scr ns), some (.tup t), some A, some (.lst odds), some O, some (.lst ls), none, none, none, none, none, none, none] = some (.nx [some (.scr ns), some (.tup t), some A, some (.lst odds), some O, some (.lst ls), none, none, none, none, none, none, none]) :=
    fFor_of (ds := odds ++ more) (by kernel_rfl) (loopF_const (ρ := [some (.scr ns), some (.tup t), some A, some (.lst odds), some O, some (.lst ls), none, none, none, none, none, none, none]) (loop2 ns (.tup t) A O (.lst ls)) _ rfl)
  rw [fSeq_nx l2]
  obtain ⟨d30, a30, b30, e30⟩ := drawn_ok ns hl 30 6 (by omega)
  obtain ⟨bad, mb, ib⟩ := ix_mem (l := [.str "", .str "a..b", .non, .str "A.b", .int 1, .tup [.str "a"]]) a30 b30
  have hb : F_is_name [bad] = bo false := by
    simp only [List.mem_cons, List.not_mem_nil, or_false] at mb
    rcases mb with rfl | rfl | rfl | rfl | rfl | rfl <;> kernel_rfl
  have v7 : v_law_7 [some (.scr ns), some (.tup t), some A, some (.lst odds), some O, some (.lst ls), none, none, none, none, none, none, none] = some (.ok bad) :=
    (f2_of (x := .lst [.str "", .str "a..b", .non, .str "A.b", .int 1, .tup [.str "a"]]) rfl (call3 F__law_drawn rfl rfl rfl e30)).trans ib
  rw [fSeq_nx (fSet_nx v7 rfl)]
  simp only [List.set_cons_succ, List.set_cons_zero]
  refine fRet_rt ?_
  unfold r_law_0
  have hT : F_is_table [.tup t] = bo true := table_yes ht
  refine (f2_of (x := R2 0) (y := R2 0) ?_ (by kernel_rfl)).trans (eq_self ((it_ref2 0).okP (by omega)) (it_ref2 0).p)
  exact comp_all (l := ([0, 1] : List Int)) Dv.int (fun _ => .tup [.str "refused", .int 0]) (rng01 _) (by decide) fun k hk => call3 F__law_told rfl rfl rfl (bad_n hT hb k hk)
theorem cut_mem {α : Type} {l : List α} {lo hi : Option Int} : (∀ x ∈ cutL l lo hi, x ∈ l) ∧ (cutL l lo hi).length ≤ l.length := by
  unfold cutL
  exact ⟨fun x hx => List.mem_of_mem_drop (List.mem_of_mem_take hx), by simp; omega⟩
theorem strs_split : ∀ {ds : List Dv}, (∀ d ∈ ds, ∃ x, d = .str x) → ∃ ks : List Str, ds = ks.map Dv.str
  | [], _ => ⟨[], rfl⟩
  | d :: ds, h => by
    obtain ⟨x, rfl⟩ := h d List.mem_cons_self
    obtain ⟨ks, rfl⟩ := strs_split (ds := ds) fun d hd => h d (List.mem_cons_of_mem _ hd)
    exact ⟨x :: ks, rfl⟩
theorem rule_str : ∀ d ∈ rules, ∃ x, d = Dv.str x := by
  intro d hd
  simp only [rules, List.mem_cons, List.not_mem_nil, or_false] at hd
  rcases hd with rfl | rfl | rfl | rfl | rfl | rfl | rfl | rfl <;> exact ⟨_, rfl⟩
theorem sort_tup {o : Str} (ht : t ∈ subs rules) (hO : Dv.str o ∈ odds) : ∃ us, sortSet [.tup (t ++ [.str o])] = some (.ok (.lst us)) ∧ (∀ d ∈ us, d ∈ items) ∧ us.length ≤ 50 := by
  have hlt : t.length ≤ 8 := by have := subs_len ht; have : rules.length = 8 := rfl; omega
  obtain ⟨ks, hk⟩ := strs_split (ds := t ++ [.str o]) fun d hd => by
    rcases List.mem_append.mp hd with hd | hd
    · exact rule_str d (subs_mem ht d hd)
    · simp at hd; exact ⟨o, hd⟩
  have hkl : ks.length ≤ 9 := by
    have := congrArg List.length hk
    simp at this
    omega
  have hm : ∀ x ∈ ks, Dv.str x ∈ items := fun x hx => by
    have : Dv.str x ∈ t ++ [.str o] := by rw [hk]; exact List.mem_map_of_mem hx
    rcases List.mem_append.mp this with h | h
    · exact List.mem_append_left _ (subs_mem ht _ h)
    · simp at h; subst h; exact List.mem_append_right _ hO
  refine ⟨(isortB leS (ST.ddk ks)).map Dv.str, ?_, fun d hd => ?_, ?_⟩
  · show (match strsOf (t ++ [.str o]) with | some ks => if ks.length ≤ 59 then (some (.ok (.lst ((isortB leS (ST.ddk ks)).map Dv.str))) : Option (Rs Dv)) else none | none => none) = _
    rw [hk, strsOf_map]
    dsimp only
    rw [if_pos (by omega)]
  · obtain ⟨x, hx, rfl⟩ := List.mem_map.mp hd
    exact hm x (mem_ddk ((isortB_perm leS _).mem_iff.mp hx))
  · rw [List.length_map, (isortB_perm leS _).length_eq]
    have := ST.ddk_le ks
    omega
end
theorem oEnd_of {i : Nat} {f : FnS} {ρ ρ' : Ev} {ds : List Dv} {d : Dv} (e : ρ.set i (some (.lst ds)) = ρ') (h : f ρ' = some (.rt d)) : oEnd i f ρ ds = some (.rt d) := by
  unfold oEnd
  rw [e, h]
theorem fOwn_of {i : Nat} {g : FnA} {f : FnO2} {ρ ρ' : Ev} {ds : List Dv} {d : Dv} (hg : g ρ = some (.ok ds)) (hl : ds.length ≤ 100000) (e : ρ.set i none = ρ') (hf : f ρ' ds = some (.rt d)) : fOwn i g f ρ = some (.rt d) := by
  unfold fOwn
  rw [hg]
  show (if _ then _ else _) = _
  rw [if_pos hl, e, hf]
theorem law_true (ns : List Int) (hl : ns.length ≤ 63) : F_law [.scr ns] = some (.ok (.bl true)) := by
  obtain ⟨t, ht, eT⟩ := table_ok ns hl
  have hlt : t.length ≤ 8 := by have := subs_len ht; have : rules.length = 8 := rfl; omega
  have hti : ∀ d ∈ t, d ∈ items := fun d hd => List.mem_append_left _ (subs_mem ht d hd)
  obtain ⟨at', a10, b10, e10⟩ := drawn_ok ns hl 10 ((t.length : Int) + 1) (by omega)
  obtain ⟨d11, a11, b11, e11⟩ := drawn_ok ns hl 11 14 (by omega)
  obtain ⟨O, hO, iO⟩ := ix_mem (l := odds) a11 b11
  have hOi : O ∈ items := List.mem_append_right _ hO
  refine run_rt ?_
  show B_law [some (.scr ns), none, none, none, none, none, none, none, none, none, none, none, none] = _
  unfold B_law
  have v0 : v_law_0 [some (.scr ns), none, none, none, none, none, none, none, none, none, none, none, none] = some (.ok (.tup t)) := call2 F__law_table rfl rfl eT
  rw [fSeq_nx (fSet_nx v0 rfl)]
  simp only [List.set_cons_succ, List.set_cons_zero]
  have v1 : v_law_1 [some (.scr ns), some (.tup t), none, none, none, none, none, none, none, none, none, none, none] = some (.ok (.int at')) := call3 F__law_drawn rfl rfl rfl e10
  rw [fSeq_nx (fSet_nx v1 rfl)]
  simp only [List.set_cons_succ, List.set_cons_zero]
  have v2 : v_law_2 [some (.scr ns), some (.tup t), some (.int at'), none, none, none, none, none, none, none, none, none, none] = some (.ok (.lst odds)) := by kernel_rfl
  rw [fSeq_nx (fSet_nx v2 rfl)]
  simp only [List.set_cons_succ, List.set_cons_zero]
  have v3 : v_law_3 [some (.scr ns), some (.tup t), some (.int at'), some (.lst odds), none, none, none, none, none, none, none, none, none] = some (.ok O) := (f2_of (x := .lst odds) rfl (call3 F__law_drawn rfl rfl rfl e11)).trans iO
  rw [fSeq_nx (fSet_nx v3 rfl)]
  simp only [List.set_cons_succ, List.set_cons_zero]
  have add2 : ∀ {f g : FnE} {ρ : Ev} {a b : List Dv}, f ρ = some (.ok (.tup a)) → g ρ = some (.ok (.tup b)) → a.length + b.length ≤ 100000 → f2 addT f g ρ = some (.ok (.tup (a ++ b))) := fun {f g ρ a b} h1 h2 h3 => by
    rw [f2_of h1 h2]
    show (if _ then _ else _) = _
    rw [if_pos h3]
  have k1 := @cut_mem Dv t none (some at')
  have k2 := @cut_mem Dv t (some (at' + 1)) none
  have k3 := @cut_mem Dv t (some at') none
  have hls : ∀ d ∈ [Dv.tup t, .tup ((cutL t none (some at') ++ [O]) ++ cutL t (some (at' + 1)) none), .tup ((cutL t none (some at') ++ [O]) ++ cutL t (some at') none), .tup t.reverse, .lst t], ∃ r b, Th r b d := by
    intro d hd
    simp only [List.mem_cons, List.not_mem_nil, or_false] at hd
    rcases hd with rfl | rfl | rfl | rfl | rfl
    · exact ⟨_, _, th_tup hti (by omega)⟩
    · refine ⟨_, _, th_tup (fun d hd => ?_) (by simp only [List.length_append, List.length_cons, List.length_nil]; omega)⟩
      simp only [List.mem_append, List.mem_singleton] at hd
      rcases hd with (hd | rfl) | hd
      · exact hti d (k1.1 d hd)
      · exact hOi
      · exact hti d (k2.1 d hd)
    · refine ⟨_, _, th_tup (fun d hd => ?_) (by simp only [List.length_append, List.length_cons, List.length_nil]; omega)⟩
      simp only [List.mem_append, List.mem_singleton] at hd
      rcases hd with (hd | rfl) | hd
      · exact hti d (k1.1 d hd)
      · exact hOi
      · exact hti d (k3.1 d hd)
    · exact ⟨_, _, th_tup (fun d hd => hti d (List.mem_reverse.mp hd)) (by simp; omega)⟩
    · exact ⟨_, _, th_lst t⟩
  have hO1 : fTup (aCons (fVar 4) aNil) [some (.scr ns), some (.tup t), some (.int at'), some (.lst odds), some O, none, none, none, none, none, none, none, none] = some (.ok (.tup [O])) := fTup_of (aCons_of rfl aNil_of) (by show 1 ≤ 100000; decide)
  have hg : (aCons (fVar 1) (aCons (f2 addT (f2 addT (fCutT (fVar 1) oNone (oSome (fVar 2))) (fTup (aCons (fVar 4) aNil))) (fCutT (fVar 1) (oSome (f2 addT (fVar 2) (fC (.int 1)))) oNone)) (aCons (f2 addT (f2 addT (fCutT (fVar 1) oNone (oSome (fVar 2))) (fTup (aCons (fVar 4) aNil))) (fCutT (fVar 1) (oSome (fVar 2)) oNone)) (aCons (fBack (fVar 1)) (aCons (fB1 listD (aCons (fVar 1) aNil)) aNil))))) [some (.scr ns), some (.tup t), some (.int at'), some (.lst odds), some O, none, none, none, none, none, none, none, none] = some (.ok [Dv.tup t, .tup ((cutL t none (some at') ++ [O]) ++ cutL t (some (at' + 1)) none), .tup ((cutL t none (some at') ++ [O]) ++ cutL t (some at') none), .tup t.reverse, .lst t]) :=
    aCons_of rfl (aCons_of (add2 (add2 rfl hO1 (by simp only [List.length_cons, List.length_nil]; omega)) rfl (by simp only [List.length_append, List.length_cons, List.length_nil]; omega)) (aCons_of (add2 (add2 rfl hO1 (by simp only [List.length_cons, List.length_nil]; omega)) rfl (by simp only [List.length_append, List.length_cons, List.length_nil]; omega)) (aCons_of rfl (aCons_of rfl aNil_of))))
  generalize hL5 : [Dv.tup t, .tup ((cutL t none (some at') ++ [O]) ++ cutL t (some (at' + 1)) none), .tup ((cutL t none (some at') ++ [O]) ++ cutL t (some at') none), .tup t.reverse, .lst t] = L5 at hg hls
  have h5 : L5.length = 5 := by rw [← hL5]; rfl
  refine fOwn_of hg (by omega) (ρ' := [some (.scr ns), some (.tup t), some (.int at'), some (.lst odds), some O, none, none, none, none, none, none, none, none]) rfl ?_
  have fin : ∀ ls : List Dv, (∀ d ∈ ls, ∃ r b, Th r b d) → ls.length ≤ 20 → oEnd 5 restB [some (.scr ns), some (.tup t), some (.int at'), some (.lst odds), some O, none, none, none, none, none, none, none, none] ls = some (.rt (.bl true)) := fun ls h1 h2 => oEnd_of rfl (rest_ok hl ht hO h1 h2)
  have hOc : (∃ o, O = .str o) ∨ (fB (f1 (isiD tbStr) (fVar 4))) [some (.scr ns), some (.tup t), some (.int at'), some (.lst odds), some O, none, none, none, none, none, none, none, none] = some (.ok false) := by
    simp only [odds, List.mem_cons, List.not_mem_nil, or_false] at hO
    rcases hO with rfl | rfl | rfl | rfl | rfl | rfl | rfl | rfl | rfl | rfl | rfl | rfl | rfl | rfl <;> first | exact .inl ⟨_, rfl⟩ | exact .inr rfl
  rcases hOc with ⟨o, rfl⟩ | hc
  · obtain ⟨us, eu, hu, hul⟩ := sort_tup ht hO
    have q : (fB1 tupleD (aCons (fB1 sortSet (aCons (f2 addT (fVar 1) (fTup (aCons (fVar 4) aNil))) aNil)) aNil)) [some (.scr ns), some (.tup t), some (.int at'), some (.lst odds), some (.str o), none, none, none, none, none, none, none, none] = some (.ok (.tup us)) := by
      refine (fB1_of (aCons_of (x := .lst us) ?_ aNil_of)).trans rfl
      refine (fB1_of (aCons_of (x := .tup (t ++ [.str o])) ?_ aNil_of)).trans eu
      exact add2 rfl hO1 (by simp only [List.length_cons, List.length_nil]; omega)
    have e1 : oIf (fB (f1 (isiD tbStr) (fVar 4))) (oApp (fB1 tupleD (aCons (fB1 sortSet (aCons (f2 addT (fVar 1) (fTup (aCons (fVar 4) aNil))) aNil)) aNil))) oNil [some (.scr ns), some (.tup t), some (.int at'), some (.lst odds), some (.str o), none, none, none, none, none, none, none, none] L5 = some (.nx [some (.scr ns), some (.tup t), some (.int at'), some (.lst odds), some (.str o), none, none, none, none, none, none, none, none] (L5 ++ [.tup us])) := by
      show oApp _ _ _ = _
      unfold oApp
      rw [if_pos (by omega), q]
      rfl
    unfold oSeq
    rw [e1]
    refine fin _ (fun d hd => ?_) (by simp [h5])
    rcases List.mem_append.mp hd with hd | hd
    · exact hls d hd
    · simp only [List.mem_singleton] at hd
      subst hd
      exact ⟨_, _, th_tup hu hul⟩
  · have e1 : oIf (fB (f1 (isiD tbStr) (fVar 4))) (oApp (fB1 tupleD (aCons (fB1 sortSet (aCons (f2 addT (fVar 1) (fTup (aCons (fVar 4) aNil))) aNil)) aNil))) oNil [some (.scr ns), some (.tup t), some (.int at'), some (.lst odds), some O, none, none, none, none, none, none, none, none] L5 = some (.nx [some (.scr ns), some (.tup t), some (.int at'), some (.lst odds), some O, none, none, none, none, none, none, none, none] L5) := by
      unfold oIf
      rw [hc]
      rfl
    unfold oSeq
    rw [e1]
    exact fin L5 hls (by omega)
end G
namespace G
open PySem PySem.Spec PyProof.Rows L2 FD
theorem walk {l : PySem.W.OpenLaw} {q : Program} {loose : List Str} {XP : (Str → Option Value) → Heap → Prop} {YP : World → Heap → Prop} {d : DefRec} {K : Params → PySem.W.Frag} (hn : l.most = some 63) (hdf : d.params.defaults = [])
    (hY : ∀ (w : World) (h : Heap), YP w h → (K w.params).In h)
    (F : ∀ (w : World) (mg : Str → Option Value) (fa : Addr) (h : Heap), (K w.params).In h → h.Ns mainGlobals mg → mg d.name = some (.ref fa) →
      ∃ fd : FuncData, (∀ (s : Shared) (u : Value), BindsTo s fd ⟨[u], []⟩ [("_law_script", u)]) ∧ ∀ base : Heap, (K w.params).In base → base.Ns mainGlobals mg → FnOk l.prog w (K w.params) mg base CX0 9 fa fd ["_law_script"] (spF (K w.params) F_law 1)) :
    PySem.W.WalkO q loose XP YP l.row.toRowW d [] (fun f vs => PySem.call f vs) :=
  L2.walk_of (n := 63) (k := 9) (x := "_law_script") (CX := fun _ => CX0) (sp := fun w => spF (K w.params) F_law 1) hn (by decide) hdf ⟨rfl, by decide, by decide⟩ hY F
    (fun _ _ a ns hl _ hS => ⟨[.scr ns], ⟨.ref a, [], rfl, ⟨a, rfl, hS⟩, rfl⟩, rfl, by rw [law_true ns hl]; exact fun v H' _ r => r⟩) fun _ _ _ _ _ z => z
end G
open PySem PySem.W PyProof.Rows
set_option maxRecDepth 100000 in
set_option maxHeartbeats 0 in
theorem PySem.Challenge.cw_notejar_k02_tables_holds : PySem.Challenge.rw_notejar_k02_tables.Holds := by
  w_on; o_law
  refine PySem.W.holds_open (q := G.VQ) (loose := G.VL) (Xt := fun s => recOk [] s) (XP := fun _ _ => True) (Yf := Hook.obs (kHook G.KK G.KA G.KA_ok)) (Ya := Hook.val (kHook G.KK G.KA G.KA_ok)) (YP := Hook.says (kHook G.KK G.KA G.KA_ok)) (N := 5434) G.left (Hook.of (kHook G.KK G.KA G.KA_ok)) (Hook.keeps (kHook G.KK G.KA G.KA_ok)) (fun _ _ => trivial) (fun _ _ _ _ _ => trivial) (by rfl) (by rfl) (by rfl) (fun s e => recFacts_of e) (by rfl) (by first | assumption | decide +kernel) (by decide +kernel) ⟨rfl, rfl, rfl, rfl, rfl, by decide +kernel⟩ ?hw ?hc
  (case hw => w_witness2)
  refine G.walk (l := PySem.Challenge.rw_notejar_k02_tables) rfl rfl (fun w h Y => PySem.W.kIn_of Y) ?F
  case F =>
    intro w mg fa h KX hG hmg
    exact G.all_mk (f1 := 208) (f2 := 215) (f3 := 116) (f4 := 123) (f5 := 128) (f6 := 298) (f7 := 303) (f8 := 222) (f9 := 246) (f10 := 251) (f11 := 256) (f12 := 227) (f13 := 284) (f14 := 166) (f15 := 159) (f16 := 173) (f17 := 187) (f18 := 147) (f19 := 135) (f20 := 140) (f21 := 154) (f22 := 180) (f23 := 201) (f24 := 194) (f25 := 291) (f26 := 308) (od26 := Option.none) (an26 := Option.none) (sl26 := #[]) (oc26 := Value.type "function") (kV26 := Value.none) (dc26 := Value.none) (pm26 := (G.kS "law_notejar_k02_tables" 437)) (cd26 := (G.kR 307)) (ct26 := Value.none) (tk1 := 329) (tk2 := 331) (tk3 := 333) (tk4 := 335) (tk5 := 337) (C0 := 37) (C1 := 49) (C2 := 61) (C3 := 73) (C4 := 85) (C5 := 97) (C6 := 109) (CJ := 24) KX hG hmg (G.af 208 "law_notejar_k02_tables" 437 207 (by kernel_rfl) (by kernel_rfl) (by kernel_rfl) (by kernel_rfl)) (G.af 215 "law_notejar_k02_tables" 437 214 (by kernel_rfl) (by kernel_rfl) (by kernel_rfl) (by kernel_rfl)) (G.af 116 "notejar.kinds" 319 115 (by kernel_rfl) (by kernel_rfl) (by kernel_rfl) (by kernel_rfl)) (G.af 123 "notejar.names" 327 122 (by kernel_rfl) (by kernel_rfl) (by kernel_rfl) (by kernel_rfl)) (G.af 128 "notejar.names" 327 127 (by kernel_rfl) (by kernel_rfl) (by kernel_rfl) (by kernel_rfl)) (G.af 298 "law_notejar_k02_tables" 437 297 (by kernel_rfl) (by kernel_rfl) (by kernel_rfl) (by kernel_rfl)) (G.af 303 "law_notejar_k02_tables" 437 302 (by kernel_rfl) (by kernel_rfl) (by kernel_rfl) (by kernel_rfl)) (G.af 222 "law_notejar_k02_tables" 437 221 (by kernel_rfl) (by kernel_rfl) (by kernel_rfl) (by kernel_rfl)) (G.af 246 "law_notejar_k02_tables" 437 245 (by kernel_rfl) (by kernel_rfl) (by kernel_rfl) (by kernel_rfl)) (G.af 251 "law_notejar_k02_tables" 437 250 (by kernel_rfl) (by kernel_rfl) (by kernel_rfl) (by kernel_rfl)) (G.af 256 "law_notejar_k02_tables" 437 255 (by kernel_rfl) (by kernel_rfl) (by kernel_rfl) (by kernel_rfl)) (G.af 227 "law_notejar_k02_tables" 437 226 (by kernel_rfl) (by kernel_rfl) (by kernel_rfl) (by kernel_rfl)) (G.af 284 "law_notejar_k02_tables" 437 283 (by kernel_rfl) (by kernel_rfl) (by kernel_rfl) (by kernel_rfl)) (G.af 166 "notejar.names" 327 165 (by kernel_rfl) (by kernel_rfl) (by kernel_rfl) (by kernel_rfl)) (G.af 159 "notejar.names" 327 158 (by kernel_rfl) (by kernel_rfl) (by kernel_rfl) (by kernel_rfl)) (G.af 173 "notejar.names" 327 172 (by kernel_rfl) (by kernel_rfl) (by kernel_rfl) (by kernel_rfl)) (G.af 187 "notejar.names" 327 186 (by kernel_rfl) (by kernel_rfl) (by kernel_rfl) (by kernel_rfl)) (G.af 147 "notejar.names" 327 146 (by kernel_rfl) (by kernel_rfl) (by kernel_rfl) (by kernel_rfl)) (G.af 135 "notejar.names" 327 134 (by kernel_rfl) (by kernel_rfl) (by kernel_rfl) (by kernel_rfl)) (G.af 140 "notejar.names" 327 139 (by kernel_rfl) (by kernel_rfl) (by kernel_rfl) (by kernel_rfl)) (G.af 154 "notejar.names" 327 153 (by kernel_rfl) (by kernel_rfl) (by kernel_rfl) (by kernel_rfl)) (G.af 180 "notejar.names" 327 179 (by kernel_rfl) (by kernel_rfl) (by kernel_rfl) (by kernel_rfl)) (G.af 201 "notejar.names" 327 200 (by kernel_rfl) (by kernel_rfl) (by kernel_rfl) (by kernel_rfl)) (G.af 194 "notejar.names" 327 193 (by kernel_rfl) (by kernel_rfl) (by kernel_rfl) (by kernel_rfl)) (G.af 291 "law_notejar_k02_tables" 437 290 (by kernel_rfl) (by kernel_rfl) (by kernel_rfl) (by kernel_rfl)) (by kernel_rfl) (by kernel_rfl) (by kernel_rfl) (by kernel_rfl) (by kernel_rfl) (by kernel_rfl) (by kernel_rfl) (by kernel_rfl) (by kernel_rfl) (by kernel_rfl) (by kernel_rfl) (by kernel_rfl) (by kernel_rfl) (by kernel_rfl) (by kernel_rfl) (by kernel_rfl) (by kernel_rfl) (by kernel_rfl) (by kernel_rfl) (by kernel_rfl) (by kernel_rfl) (by kernel_rfl) (by kernel_rfl) (by kernel_rfl) (by kernel_rfl) (by kernel_rfl) (by kernel_rfl) (by kernel_rfl) (by kernel_rfl)
#print axioms PySem.Challenge.cw_notejar_k02_tables_holds
