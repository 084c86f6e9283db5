import PyProof.Rows.All
import Wide.All
import OpenK.AllK
import Wide.FinOn
import Lean
import PyProof.EqAt
import PyProof.EqKinds
import PyProof.TupleCall
import PySem.SetTable
import PyProof.SetKind
import PyProof.TupleKey
import PyProof.DictKinds
import PyProof.Rows.SetFrom
import PyProof.ZipIter
import PyProof.Conv_int
import PyProof.FactsAll.str
import PyProof.StrLawsTight
import PyProof.Rows.StrDigits
import PySem.Challenge.RW_notejar_k32_whole_giving
set_option Elab.async false
namespace G
open PySem PySem.W PyProof.Rows
noncomputable def hT (i : Nat) : Stmt := PySem.Challenge.pw_notejar_k32_whole_giving.main.body.getD i (.Pass ⟨0, 0, 0, 0⟩)
noncomputable def hA (s : Stmt) : Arguments := match s with
  | .FunctionDef _ a _ _ _ _ _ _ _ _ => a
  | _ => { posonlyargs := [], args := [], vararg := none, kwonlyargs := [], kw_defaults := [], kwarg := none, defaults := [] }
noncomputable def hB (s : Stmt) : List Stmt := match s with
  | .FunctionDef _ _ b _ _ _ _ _ _ _ => b
  | _ => []
noncomputable def hS (s : Stmt) : Scope := match s with
  | .FunctionDef _ _ _ _ _ _ sc _ _ _ => sc
  | _ => { kind := .function, names := [], isGenerator := false, isCoroutine := false }
noncomputable abbrev kS (s : String) (t : Nat) : Value := .str (Str.ofString s) t
noncomputable abbrev kR (a : Nat) : Value := .ref a
noncomputable abbrev kI (i : Int) (t : Nat) : Value := .int i t
noncomputable abbrev kE (P : Params) (s : String) (t : Nat) (v : Value) : DictEntry := ⟨PySem.PyData.keyHash P (Str.ofString s), .str (Str.ofString s) t, v⟩
noncomputable def kF (x : String) (i : Nat) (m : String) (t c : Nat) : Obj := Obj.mk (Value.type "function") Option.none (Data.func (fnOf (Str.ofString x) (Str.ofString x) (hA (hT i)) (hB (hT i)) (hS (hT i)) .none Value.none Value.none (kS m t) Option.none (kR c) Value.none)) #[]
noncomputable def kC (x : String) (a b c : Nat) (d e f : Int) (g : Nat) (h : Int) (i j : Nat) (k l : Int) (m : Nat) : Obj := Obj.mk (Value.type "code") Option.none (Data.fields #[kS x a, kS x b, kS "/claim/cut.py" c, kI d 0, kI e 0, kI 0 0, kI 0 0, kI f 0, kR g, Value.bool Bool.true, kI h 0, kR i, Value.none, Value.none, Value.none, kR j, kI k 0, kI l 0, kS "/claim/cut.py" m]) #[]
noncomputable def kD (x : String) (a b c : Nat) (d e f : Int) (g : Nat) (h : Int) (i u v j : Nat) (k l : Int) (m : Nat) : Obj := Obj.mk (Value.type "code") Option.none (Data.fields #[kS x a, kS x b, kS "/claim/cut.py" c, kI d 0, kI e 0, kI 0 0, kI 0 0, kI f 0, kR g, Value.bool Bool.true, kI h 0, kR i, Value.none, kR u, kR v, kR j, kI k 0, kI l 0, kS "/claim/cut.py" m]) #[]
noncomputable def KKa (P : Params) : Frag := [(2, Obj.mk Value.none Option.none (Data.dict #[]) #[]),
 (3, Obj.mk (Value.type "dict") Option.none (Data.dict #[kE P "__name__" 165 (kS "law_notejar_k32_whole_giving" 397), kE P "__doc__" 166 Value.none, kE P "__package__" 167 Value.none, kE P "__loader__" 168 (Value.builtin "__main__.__loader__#opaque"), kE P "__spec__" 169 Value.none, kE P "__annotations__" 170 (kR 6), kE P "__builtins__" 171 (kR 4), kE P "__file__" 173 (kS "/claim/cut.py" 172), kE P "__cached__" 174 Value.none, kE P "JarError" 206 (kR 24), kE P "NoNote" 222 (kR 37), kE P "is_text_of" 230 (kR 44), kE P "is_whole_number" 239 (kR 51), kE P "is_tuple_of" 247 (kR 58), kE P "FIGURES" 251 (kS "0123456789" 250), kE P "LABEL_SIGNS" 253 (kS "abcdefghijklmnopqrstuvwxyz0123456789-" 252), kE P "LONGEST_LABEL" 255 (kI 8 254), kE P "MOST_LABELS" 257 (kI 5 256), kE P "is_label" 264 (kR 65), kE P "is_name" 270 (kR 70), kE P "PATH_SIGNS" 274 (kS "abcdefghijklmnopqrstuvwxyz0123456789-_./" 273), kE P "LONGEST_PATH" 276 (kI 20 275), kE P "is_path" 283 (kR 77), kE P "LAST_MOMENT" 287 (kI 9999 286), kE P "is_moment" 294 (kR 84), kE P "is_moment_or_none" 301 (kR 91), kE P "NOTE_NAME_SIGNS" 305 (kS "abcdefghijklmnopqrstuvwxyzABCDEFGHIJKLMNOPQRSTUVWXYZ0123456789-_" 304), kE P "LONGEST_NOTE_NAME" 307 (kI 10 306), kE P "NO_WORTH_SIGNS" 309 (kS ";,=" 308), kE P "LONGEST_WORTH" 311 (kI 12 310), kE P "MOST_FIGURES" 313 (kI 4 312), kE P "GIVEN_NAME" 315 (kI 0 314), kE P "GIVEN_WORTH" 317 (kI 1 316), kE P "GIVEN_HOUSE" 319 (kI 2 318), kE P "GIVEN_PATH" 321 (kI 3 320), kE P "GIVEN_UNTIL" 323 (kI 4 322), kE P "GIVEN_LASTS" 325 (kI 5 324), kE P "GIVEN_SAFE" 327 (kI 6 326), kE P "GIVEN_REACH" 329 (kI 7 328), kE P "GIVEN_PARTS" 331 (kI 8 330), kE P "is_note_name" 338 (kR 98), kE P "is_worth" 344 (kR 103), kE P "is_reach" 351 (kR 110), kE P "is_given" 358 (kR 117), kE P "need_given" 365 (kR 124), kE P "is_written_moment" 372 (kR 131), kE P "what_is_told" 382 (kR 138), kE P "read_given" 388 (kR 143), kE P "given_text" 396 (kR 150), kE P "_law_cell" 406 (kR 157), kE P "_law_drawn" 416 (kR 164), kE P "_law_name" 425 (kR 171), kE P "_law_table" 431 (kR 176), kE P "_law_path" 440 (kR 183), kE P "_law_ask" 449 (kR 190), kE P "_law_given" 466 (kR 197), kE P "_law_text" 484 (kR 204), kE P "law" 504 (kR 211)] 58) #[]),
 (23, Obj.mk (Value.type "dict") Option.none (Data.dict #[kE P "__module__" 196 (kS "notejar.errors" 187), kE P "__firstlineno__" 200 (kI 2 199), kE P "__static_attributes__" 201 (kR 22), kE P "__weakref__" 203 (kR 25), kE P "__doc__" 204 Value.none] 3) #[]),
 (24, Obj.mk (Value.type "type") Option.none (Data.cls (PySem.ClassData.mk (Str.ofString "JarError") [Value.type "ValueError"] [kR 24, Value.type "ValueError", Value.type "Exception", Value.type "BaseException", Value.type "object"] 23 (Str.ofString "JarError") Bool.true [] [kR 37] Bool.false Option.none Bool.false)) #[Option.some (kR 15), Option.none, Option.some (kS "JarError" 189), Option.some (kS "JarError" 197), Option.some (Value.builtin "ValueError.__new__"), Option.some (Value.bool Bool.true)]),
 (36, Obj.mk (Value.type "dict") Option.none (Data.dict #[kE P "__module__" 214 (kS "notejar.errors" 187), kE P "__firstlineno__" 218 (kI 4 217), kE P "__static_attributes__" 219 (kR 35), kE P "__doc__" 220 Value.none] 2) #[]),
 (37, Obj.mk (Value.type "type") Option.none (Data.cls (PySem.ClassData.mk (Str.ofString "NoNote") [kR 24] [kR 37, kR 24, Value.type "ValueError", Value.type "Exception", Value.type "BaseException", Value.type "object"] 36 (Str.ofString "NoNote") Bool.true [] [] Bool.false Option.none Bool.false)) #[Option.some (kR 28), Option.none, Option.some (kS "NoNote" 207), Option.some (kS "NoNote" 215), Option.some (Value.builtin "ValueError.__new__"), Option.some (Value.bool Bool.true)]),
 (43, kC "is_text_of" 225 226 227 7 4 3 40 181 41 42 228 7 229),
 (44, kF "is_text_of" 4 "notejar.kinds" 223 43),
 (50, kD "is_whole_number" 231 232 233 13 3 3 45 181 46 47 48 49 237 13 238),
 (51, kF "is_whole_number" 5 "notejar.kinds" 223 50),
 (57, kD "is_tuple_of" 240 241 242 17 2 3 52 181 53 54 55 56 245 17 246),
 (58, kF "is_tuple_of" 6 "notejar.kinds" 223 57),
 (64, kD "is_label" 258 259 260 24 1 3 59 181 60 61 62 63 262 24 263),
 (65, kF "is_label" 12 "notejar.names" 248 64),
 (69, kC "is_name" 265 266 267 28 1 3 66 181 67 68 268 28 269),
 (70, kF "is_name" 13 "notejar.names" 248 69),
 (76, kD "is_path" 277 278 279 38 1 3 71 181 72 73 74 75 281 38 282),
 (77, kF "is_path" 17 "notejar.paths" 271 76),
 (83, kD "is_moment" 288 289 290 42 1 3 78 181 79 80 81 82 292 42 293),
 (84, kF "is_moment" 20 "notejar.asks" 284 83),
 (90, kD "is_moment_or_none" 295 296 297 44 1 3 85 181 86 87 88 89 299 44 300),
 (91, kF "is_moment_or_none" 21 "notejar.asks" 284 90),
 (97, kD "is_note_name" 332 333 334 61 1 3 92 181 93 94 95 96 336 61 337),
 (98, kF "is_note_name" 37 "notejar.giving" 302 97),
 (102, kC "is_worth" 339 340 341 63 1 3 99 181 100 101 342 63 343),
 (103, kF "is_worth" 38 "notejar.giving" 302 102),
 (109, kD "is_reach" 345 346 347 67 1 3 104 181 105 106 107 108 349 67 350)]
noncomputable def KKb (P : Params) : Frag := [(110, kF "is_reach" 39 "notejar.giving" 302 109),
 (116, kD "is_given" 352 353 354 69 1 3 111 181 112 113 114 115 356 69 357),
 (117, kF "is_given" 40 "notejar.giving" 302 116),
 (123, kD "need_given" 359 360 361 73 1 3 118 181 119 120 121 122 363 73 364),
 (124, kF "need_given" 41 "notejar.giving" 302 123),
 (130, kD "is_written_moment" 366 367 368 76 1 3 125 181 126 127 128 129 370 76 371),
 (131, kF "is_written_moment" 42 "notejar.giving" 302 130),
 (137, kD "what_is_told" 373 374 375 78 1 3 132 181 133 134 135 136 380 78 381),
 (138, kF "what_is_told" 43 "notejar.giving" 302 137),
 (142, kC "read_given" 383 384 385 95 1 3 139 181 140 141 386 95 387),
 (143, kF "read_given" 44 "notejar.giving" 302 142),
 (149, kD "given_text" 389 390 391 108 1 3 144 181 145 146 147 148 394 108 395),
 (150, kF "given_text" 45 "notejar.giving" 302 149),
 (156, kD "_law_cell" 399 400 401 125 2 3 151 181 152 153 154 155 404 125 405),
 (157, kF "_law_cell" 47 "law_notejar_k32_whole_giving" 397 156),
 (163, kD "_law_drawn" 407 408 409 129 3 3 158 181 159 160 161 162 414 129 415),
 (164, kF "_law_drawn" 48 "law_notejar_k32_whole_giving" 397 163),
 (170, kD "_law_name" 417 418 419 133 2 3 165 181 166 167 168 169 423 133 424),
 (171, kF "_law_name" 49 "law_notejar_k32_whole_giving" 397 170),
 (182, kD "_law_path" 432 433 434 140 2 3 177 181 178 179 180 181 438 140 439),
 (183, kF "_law_path" 51 "law_notejar_k32_whole_giving" 397 182),
 (196, kD "_law_given" 450 451 452 146 3 3 191 181 192 193 194 195 464 146 465),
 (197, kF "_law_given" 53 "law_notejar_k32_whole_giving" 397 196),
 (203, kD "_law_text" 467 468 469 157 1 3 198 181 199 200 201 202 482 157 483),
 (204, kF "_law_text" 54 "law_notejar_k32_whole_giving" 397 203),
 (210, kD "law" 485 486 487 165 1 3 205 181 206 207 208 209 502 165 503),
 (211, kF "law" 55 "law_notejar_k32_whole_giving" 397 210)]
noncomputable def KK (P : Params) : Frag := KKa P ++ KKb P
noncomputable def KAa : List Addr := [2, 3, 23, 24, 36, 37, 43, 44, 50, 51, 57, 58, 64, 65, 69, 70, 76, 77, 83, 84, 90, 91, 97, 98, 102, 103, 109]
noncomputable def KAb : List Addr := [110, 116, 117, 123, 124, 130, 131, 137, 138, 142, 143, 149, 150, 156, 157, 163, 164, 170, 171, 182, 183, 196, 197, 203, 204, 210, 211]
noncomputable def KA : List Addr := KAa ++ KAb
theorem KA_ok (P : Params) : KA = (KK P).map (·.1) := by kernel_rfl
noncomputable def VQ : Program := view PySem.Challenge.pw_notejar_k32_whole_giving [55]
noncomputable def VL : List Str := [Str.ofString "JarError", Str.ofString "NoNote", Str.ofString "is_text_of", Str.ofString "is_whole_number", Str.ofString "is_tuple_of", Str.ofString "FIGURES", Str.ofString "LABEL_SIGNS", Str.ofString "LONGEST_LABEL", Str.ofString "MOST_LABELS", Str.ofString "is_label", Str.ofString "is_name", Str.ofString "PATH_SIGNS", Str.ofString "LONGEST_PATH", Str.ofString "is_path", Str.ofString "LAST_MOMENT", Str.ofString "is_moment", Str.ofString "is_moment_or_none", Str.ofString "NOTE_NAME_SIGNS", Str.ofString "LONGEST_NOTE_NAME", Str.ofString "NO_WORTH_SIGNS", Str.ofString "LONGEST_WORTH", Str.ofString "MOST_FIGURES", Str.ofString "GIVEN_NAME", Str.ofString "GIVEN_WORTH", Str.ofString "GIVEN_HOUSE", Str.ofString "GIVEN_PATH", Str.ofString "GIVEN_UNTIL", Str.ofString "GIVEN_LASTS", Str.ofString "GIVEN_SAFE", Str.ofString "GIVEN_REACH", Str.ofString "GIVEN_PARTS", Str.ofString "is_note_name", Str.ofString "is_worth", Str.ofString "is_reach", Str.ofString "is_given", Str.ofString "need_given", Str.ofString "is_written_moment", Str.ofString "what_is_told", Str.ofString "read_given", Str.ofString "given_text", Str.ofString "_law_cell", Str.ofString "_law_drawn", Str.ofString "_law_name", Str.ofString "_law_table", Str.ofString "_law_path", Str.ofString "_law_ask", Str.ofString "_law_given", Str.ofString "_law_text"]
theorem both {α β γ : Type} {o : Option α} {f : α → β} {g : α → γ} {a : β} {b : γ} (h1 : o.map f = some a) (h2 : o.map g = some b) : o.map (fun s => (f s, g s)) = some (a, b) := by
  cases o with
  | none => cases h1
  | some x => cases h1; cases h2; rfl
set_option maxRecDepth 100000 in
set_option maxHeartbeats 0 in
theorem left1 (w : World) : (openEnds treeTable PySem.Challenge.pw_notejar_k32_whole_giving w 3008).map (openSeen VQ VL (importedModules PySem.Challenge.pw_notejar_k32_whole_giving.main.body) (fun s => recOk [] s) true) = some (openGood VQ VL) := by kernel_rfl
set_option maxRecDepth 100000 in
set_option maxHeartbeats 0 in
theorem left2a (w : World) : (openEnds treeTable PySem.Challenge.pw_notejar_k32_whole_giving w 3008).map (fun s => KAa.map s.heap.get?) = some ((KKa w.params).map fun p => some p.2) := by kernel_rfl
set_option maxRecDepth 100000 in
set_option maxHeartbeats 0 in
theorem left2b (w : World) : (openEnds treeTable PySem.Challenge.pw_notejar_k32_whole_giving w 3008).map (fun s => KAb.map s.heap.get?) = some ((KKb w.params).map fun p => some p.2) := by kernel_rfl
theorem both_app {α β γ : Type} {o : Option α} {f : α → β → γ} {A B : List β} {X Y : List γ} (h1 : o.map (fun s => A.map (f s)) = some X) (h2 : o.map (fun s => B.map (f s)) = some Y) : o.map (fun s => (A ++ B).map (f s)) = some (X ++ Y) := by
  cases o with
  | none => cases h1
  | some x => cases h1; cases h2; simp
theorem left2 (w : World) : (openEnds treeTable PySem.Challenge.pw_notejar_k32_whole_giving w 3008).map (fun s => KA.map s.heap.get?) = some ((KK w.params).map fun p => some p.2) := by
  show (openEnds treeTable PySem.Challenge.pw_notejar_k32_whole_giving w 3008).map (fun s => (KAa ++ KAb).map s.heap.get?) = some ((KKa w.params ++ KKb w.params).map fun p => some p.2)
  rw [List.map_append]
  exact both_app (f := fun s : Shared => s.heap.get?) (left2a w) (left2b w)
theorem left : LeftO PySem.Challenge.pw_notejar_k32_whole_giving VQ VL (fun s => recOk [] s) (Hook.obs (kHook KK KA KA_ok)) (Hook.val (kHook KK KA KA_ok)) 3008 := fun w => both (left1 w) (left2 w)
end G
set_option Elab.async false
set_option linter.all false
set_option maxRecDepth 100000
namespace L2
open PySem PySem.Spec PyProof.Rows
abbrev Key := Sum Int Str
def keyIs : Key → Value → Bool
  | .inl k, v => Value.isInt k v
  | .inr x, v => Value.isStrOf x v
def keyH (w : World) : Key → Int
  | .inl k => hashInt k
  | .inr x => hashStr w x
theorem keyIs_shape : ∀ {k : Key} {v : Value}, keyIs k v = true → (∃ i t, k = Sum.inl i ∧ v = Value.int i t) ∨ (∃ x t, k = Sum.inr x ∧ v = Value.str x t)
  | .inl i, v, h => by
    obtain ⟨t, e⟩ := Value.isInt_shape (k := i) (v := v) h
    exact .inl ⟨i, t, rfl, e⟩
  | .inr x, v, h => by
    obtain ⟨t, e⟩ := Value.isStrOf_shape (x := x) (v := v) h
    exact .inr ⟨x, t, rfl, e⟩
theorem key_ll (a b : Int) : decide ((Sum.inl a : Key) = Sum.inl b) = (a == b) := by
  by_cases e : a = b
  · subst e; simp
  · have h : ¬ (Sum.inl a : Key) = Sum.inl b := fun q => e (Sum.inl.inj q)
    rw [decide_eq_false h]
    exact (beq_eq_false_iff_ne.mpr e).symm
theorem key_rr (a b : Str) : decide ((Sum.inr a : Key) = Sum.inr b) = decide (a = b) := by
  by_cases e : a = b
  · subst e; simp
  · have h : ¬ (Sum.inr a : Key) = Sum.inr b := fun q => e (Sum.inr.inj q)
    rw [decide_eq_false h, decide_eq_false e]
theorem key_lr (a : Int) (b : Str) : decide ((Sum.inl a : Key) = Sum.inr b) = false := decide_eq_false (fun q => nomatch q)
theorem key_rl (a : Str) (b : Int) : decide ((Sum.inr a : Key) = Sum.inl b) = false := decide_eq_false (fun q => nomatch q)
def mixKind (prog : Program) (w : World) : PySem.KeyKind prog w Key where
  is := keyIs
  hash := keyH w
  inj := fun v a b ha hb => by
    rcases keyIs_shape ha with ⟨i, t, rfl, rfl⟩ | ⟨x, t, rfl, rfl⟩
    · rcases keyIs_shape hb with ⟨j, u, rfl, e⟩ | ⟨y, u, rfl, e⟩
      · injection e with e1 _; rw [e1]
      · exact nomatch e
    · rcases keyIs_shape hb with ⟨j, u, rfl, e⟩ | ⟨y, u, rfl, e⟩
      · exact nomatch e
      · injection e with e1 _; rw [e1]
  byValue := fun k v h => by
    rcases keyIs_shape h with ⟨i, t, rfl, rfl⟩ | ⟨x, t, rfl, rfl⟩ <;> rfl
  pyHash := fun hv h => by
    rcases keyIs_shape hv with ⟨i, t, rfl, rfl⟩ | ⟨x, t, rfl, rfl⟩
    · exact wpAny_pyHash_int h
    · exact wpAny_pyHash_str h
  eqBool := fun hu hv h => by
    rcases keyIs_shape hu with ⟨i, t, rfl, rfl⟩ | ⟨x, t, rfl, rfl⟩
    · rcases keyIs_shape hv with ⟨j, u, rfl, rfl⟩ | ⟨y, u, rfl, rfl⟩
      · rw [key_ll] at h; exact wpAny_eqBool_int h
      · rw [key_lr] at h; exact SeqAt.EqAt.int_str i t y u _ _ _ _ h
    · rcases keyIs_shape hv with ⟨j, u, rfl, rfl⟩ | ⟨y, u, rfl, rfl⟩
      · rw [key_rl] at h; exact SeqAt.EqAt.str_int x t j u _ _ _ _ h
      · rw [key_rr] at h; exact wpAny_eqBool_str h
  «strs» := fun k x t v h => by
    rcases keyIs_shape h with ⟨i, u, rfl, e⟩ | ⟨y, u, rfl, e⟩
    · exact nomatch e
    · injection e with e1 _
      subst e1
      cases v <;> rfl
end L2
namespace L2
open PySem PySem.Spec PyProof.Rows
inductive V where
  | non | bl (b : Bool) | int (i : Int) | str (x : Str) | byt (b : Array UInt8) | flt (b : UInt64) | ref (a : Addr) | ty (n : String)
  deriving DecidableEq
def RelV : V → Value → Prop
  | .non, u => u = Value.none
  | .bl b, u => u = Value.bool b
  | .int i, u => ∃ t, u = Value.int i t
  | .str x, u => ∃ t, u = Value.str x t
  | .byt b, u => ∃ t, u = Value.bytes b t
  | .flt b, u => ∃ t, u = Value.float b t
  | .ref a, u => u = Value.ref a
  | .ty n, u => u = Value.type n
abbrev Vals : List V → List Value → Prop := Paired RelV
theorem Vals.length {xs : List V} {us : List Value} (r : Vals xs us) : xs.length = us.length := Paired.length r
theorem Vals.get : ∀ {xs : List V} {us : List Value} {i : Nat} {x : V}, Vals xs us → xs[i]? = some x → ∃ u, us[i]? = some u ∧ RelV x u
  | _, _, _, _, .nil, e => by simp at e
  | _, _, 0, _, .cons r _, e => by simp at e; subst e; exact ⟨_, rfl, r⟩
  | _, _, i + 1, x, .cons _ t, e => by
    obtain ⟨u, h1, h2⟩ := Vals.get (i := i) (x := x) t (by simpa using e)
    exact ⟨u, by simpa using h1, h2⟩
theorem Vals.set {x : V} {u : Value} (r : RelV x u) : ∀ {xs : List V} {us : List Value} (i : Nat), Vals xs us → Vals (xs.set i x) (us.set i u)
  | _, _, _, .nil => .nil
  | _, _, 0, .cons _ t => .cons r t
  | _, _, i + 1, .cons q t => .cons q (Vals.set r i t)
theorem Vals.append : ∀ {xs ys : List V} {us ws : List Value}, Vals xs us → Vals ys ws → Vals (xs ++ ys) (us ++ ws)
  | _, _, _, _, .nil, s => s
  | _, _, _, _, .cons r t, s => .cons r (Vals.append t s)
theorem Vals.take : ∀ {xs : List V} {us : List Value} (n : Nat), Vals xs us → Vals (xs.take n) (us.take n)
  | _, _, 0, _ => .nil
  | _, _, _ + 1, .nil => .nil
  | _, _, n + 1, .cons r t => .cons r (Vals.take n t)
theorem Vals.drop : ∀ {xs : List V} {us : List Value} (n : Nat), Vals xs us → Vals (xs.drop n) (us.drop n)
  | _, _, 0, r => r
  | _, _, _ + 1, .nil => .nil
  | _, _, n + 1, .cons _ t => Vals.drop n t
theorem Vals.none_of : ∀ {xs : List V} {us : List Value} {i : Nat}, Vals xs us → xs[i]? = none → us[i]? = none := fun {xs us i} r e => by
  have h1 := r.length
  have h2 : xs.length ≤ i := List.getElem?_eq_none_iff.mp e
  exact List.getElem?_eq_none_iff.mpr (by omega)
def RelO : Option V → Option Value → Prop
  | some v, some u => RelV v u
  | none, none => True
  | _, _ => False
def KV {κ : Type} : List (κ × V) → List (κ × Value) → Prop := Paired fun (p : κ × V) (q : κ × Value) => p.1 = q.1 ∧ RelV p.2 q.2
def kV : Key → V
  | .inl i => .int i
  | .inr x => .str x
inductive HO where
  | lst (xs : List V)
  | tup (xs : List V)
  | dK (kvs : List (Key × V)) | dT (kvs : List (List Key × V))
  | set (S : Int → Bool) (n : Nat)
  | ins (C dx : Addr) (fs : List (Str × V))
  | own (x : Addr)
  | xd (fs : List (Str × V))
  | met (f x : Addr)
  | rng (lo hi : Int)
  | frz (o : Obj) (u : HO)
  | tbl (ps : Array Value)
  | ext (φ : Heap → Prop)
abbrev Hp := Addr → Option HO
def upd (H : Hp) (a : Addr) (o : HO) : Hp := fun b => if b = a then some o else H b
theorem upd_same {H : Hp} {a : Addr} {o : HO} : upd H a o a = some o := by unfold upd; rw [if_pos rfl]
theorem upd_ne {H : Hp} {a b : Addr} {o : HO} (h : b ≠ a) : upd H a o b = H b := by unfold upd; rw [if_neg h]
theorem upd_upd {H : Hp} {a : Addr} {o u : HO} : upd (upd H a o) a u = upd H a u := by
  funext b; unfold upd; split <;> rfl
theorem ne_of_none {H : Hp} {a b : Addr} {o : HO} (h : H a = some o) (h' : H b = none) : a ≠ b := by
  intro e; subst e; rw [h] at h'; cases h'
section
variable (P : Program) (w : World)
def ObjOk (H : Hp) (h : Heap) (a : Addr) : HO → Prop
  | .lst xs => xs.length ≤ sizeLine ∧ ∃ (its : List Value) (n : Nat), Vals xs its ∧ h.get? a = some { cls := .type "list", data := .seq its.toArray n }
  | .tup xs => xs.length ≤ sizeLine ∧ ∃ its : List Value, Vals xs its ∧ IsTup h a its.toArray
  | .dK kvs => kvs.length ≤ sizeLine ∧ (a == sysModules) = false ∧ ∃ vs, KV kvs vs ∧ h.DictOf (mixKind P w) a vs
  | .dT kvs => kvs.length ≤ sizeLine ∧ (a == sysModules) = false ∧ ∃ xs : List (List Key × Addr × Value),
      Paired (fun (p : List Key × V) (q : List Key × Addr × Value) => p.1 = q.1 ∧ H q.2.1 = some (.tup (p.1.map kV)) ∧ RelV p.2 q.2.2) kvs xs ∧
      ∃ o es ep, h.get? a = some o ∧ o.ExactDict ∧ o.data = .dict es ep ∧ es.toList = xs.map (entryOfKey (tupleKind (mixKind P w))) ∧ (xs.map (·.1)).Nodup
  | .set S n => h.SetOf (intKind P w) a S n
  | .ins C dx fs => H dx = some (.own a) ∧ fs.length ≤ 1000 ∧ dx ≠ a ∧ h.get? a = some (PySem.W.instObj C dx) ∧
      ∃ mA, h.Ns1 dx mA ∧ (∀ f, RelO (fs.lookup f) (mA f)) ∧ PySem.Within mA (fs.map (·.1))
  | .own _ => ∃ o, h.get? a = some o
  | .xd fs => ∃ mA, h.Ns1 a mA ∧ ∀ f, RelO (fs.lookup f) (mA f)
  | .rng lo hi => ∃ t u v, h.get? a = some { cls := .type "range", data := .fields #[.int lo t, .int hi u, .int 1 v] }
  | .frz o u => h.get? a = some o ∧ ObjOk H h a u
  | .tbl ps => h.get? a = some { cls := .none, data := .fields ps }
  | .met f x => h.get? a = some (PySem.W.methodObj (.ref f) (.ref x))
  | .ext φ => φ h ∧ (∃ o, h.get? a = some o) ∧ ∀ h1 h2 : Heap, φ h1 → (∀ o, h1.get? a = some o → h2.get? a = some o) → φ h2
def HOk (H : Hp) (h : Heap) : Prop := ∀ a o, H a = some o → ObjOk P w H h a o
end
section
variable {P : Program} {w : World} {H H' : Hp} {h h' : Heap} {a : Addr} {o : HO}
theorem ObjOk.lt (x : ObjOk P w H h a o) : a < h.objs.size := by
  cases o with
  | lst xs => obtain ⟨_, _, _, _, e⟩ := x; exact Heap.lt_size e
  | tup xs => obtain ⟨_, _, _, p⟩ := x; exact p.lt
  | dK kvs => obtain ⟨_, _, _, _, o, _, _, e, _⟩ := x; exact Heap.lt_size e
  | dT kvs => obtain ⟨_, _, _, _, o, _, _, e, _⟩ := x; exact Heap.lt_size e
  | set S n => obtain ⟨o, _, _, _, e, _⟩ := x; exact Heap.lt_size e
  | ins C dx fs => obtain ⟨_, _, _, e, _⟩ := x; exact Heap.lt_size e
  | own y => obtain ⟨_, e⟩ := x; exact Heap.lt_size e
  | xd fs => obtain ⟨_, ⟨_, _, _, e, _⟩, _⟩ := x; exact Heap.lt_size e
  | rng lo hi => obtain ⟨_, _, _, e⟩ := x; exact Heap.lt_size e
  | frz ob u => obtain ⟨e, _⟩ := x; exact Heap.lt_size e
  | tbl ps => exact Heap.lt_size (show h.get? a = some _ from x)
  | met f y => exact Heap.lt_size (show h.get? a = some _ from x)
  | ext φ => obtain ⟨_, ⟨_, e⟩, _⟩ := x; exact Heap.lt_size e
theorem Paired.mapP {α β : Type} {F G : α → β → Prop} : ∀ {l₁ : List α} {l₂ : List β}, Paired F l₁ l₂ → (∀ a b, F a b → G a b) → Paired G l₁ l₂
  | _, _, .nil, _ => .nil
  | _, _, .cons r t, f => .cons (f _ _ r) (Paired.mapP t f)
theorem ObjOk.stay (x : ObjOk P w H h a o) (k : ∀ b u, (b = a ∨ H b = some (.own a)) → h.get? b = some u → h'.get? b = some u)
    (ho : ∀ b, H b = some (.own a) → H' b = some (.own a)) (ht : ∀ b xs, H b = some (.tup xs) → H' b = some (.tup xs)) : ObjOk P w H' h' a o := by
  induction o with
  | lst xs => obtain ⟨z, its, n, r, e⟩ := x; exact ⟨z, its, n, r, k _ _ (.inl rfl) e⟩
  | tup xs => obtain ⟨z, its, r, ob, e, c⟩ := x; exact ⟨z, its, r, ob, k _ _ (.inl rfl) e, c⟩
  | dK kvs => obtain ⟨z, y, vs, r, ob, es, ep, e, c⟩ := x; exact ⟨z, y, vs, r, ob, es, ep, k _ _ (.inl rfl) e, c⟩
  | dT kvs =>
    obtain ⟨z, y, xs, r, ob, es, ep, e, c⟩ := x
    exact ⟨z, y, xs, Paired.mapP r fun p q z => ⟨z.1, ht _ _ z.2.1, z.2.2⟩, ob, es, ep, k _ _ (.inl rfl) e, c⟩
  | set S n => obtain ⟨ob, es, ep, t, e, c⟩ := x; exact ⟨ob, es, ep, t, k _ _ (.inl rfl) e, c⟩
  | ins C dx fs =>
    obtain ⟨d, z, ne, e, mA, ⟨od, es, ep, e2, c⟩, r⟩ := x
    exact ⟨ho _ d, z, ne, k _ _ (.inl rfl) e, mA, ⟨od, es, ep, k _ _ (.inr d) e2, c⟩, r⟩
  | own y => obtain ⟨ob, e⟩ := x; exact ⟨ob, k _ _ (.inl rfl) e⟩
  | xd fs => obtain ⟨mA, ⟨od, es, ep, e, c⟩, r⟩ := x; exact ⟨mA, ⟨od, es, ep, k _ _ (.inl rfl) e, c⟩, r⟩
  | rng lo hi => obtain ⟨t, u, v, e⟩ := x; exact ⟨t, u, v, k _ _ (.inl rfl) e⟩
  | frz ob u ih => obtain ⟨e, q⟩ := x; exact ⟨k _ _ (.inl rfl) e, ih q⟩
  | tbl ps =>
    have e : h.get? a = some { cls := .none, data := .fields ps } := x
    show h'.get? a = some { cls := .none, data := .fields ps }
    exact k a _ (.inl rfl) e
  | met f y =>
    have e : h.get? a = some (PySem.W.methodObj (.ref f) (.ref y)) := x
    show h'.get? a = some (PySem.W.methodObj (.ref f) (.ref y))
    exact k a _ (.inl rfl) e
  | ext φ => obtain ⟨p, ⟨o, e⟩, st⟩ := x; exact ⟨st _ _ p fun o q => k _ _ (.inl rfl) q, ⟨o, k _ _ (.inl rfl) e⟩, st⟩
theorem HOk.lt (x : HOk P w H h) (e : H a = some o) : a < h.objs.size := (x a o e).lt
theorem HOk.fresh (x : HOk P w H h) (e : h.objs.size ≤ a) : H a = none := by
  cases q : H a with
  | none => rfl
  | some u => exact absurd (Nat.lt_of_lt_of_le (x.lt q) e) (Nat.lt_irrefl _)
theorem HOk.kept (x : HOk P w H h) (k : ∀ b u, h.get? b = some u → h'.get? b = some u) : HOk P w H h' := fun a o e =>
  (x a o e).stay (fun b u _ q => k b u q) (fun _ q => q) fun _ _ q => q
theorem HOk.laid (x : HOk P w H h) (k : ∀ b u, h.get? b = some u → h'.get? b = some u) (hp : h.objs.size ≤ a) (new : ObjOk P w (upd H a o) h' a o) : HOk P w (upd H a o) h' := fun b u e => by
  have hn := x.fresh hp
  by_cases hb : b = a
  · subst hb; rw [upd_same] at e; cases e; exact new
  · rw [upd_ne hb] at e
    exact (x b u e).stay (fun c v _ q => k c v q) (fun c q => by rw [upd_ne (ne_of_none q hn)]; exact q) fun c xs q => by rw [upd_ne (ne_of_none q hn)]; exact q
end
def Rd (H : Hp) (a : Addr) (u : HO) : Prop := H a = some u ∨ ∃ o, H a = some (.frz o u)
theorem Rd.of {H : Hp} {a : Addr} {u : HO} (h : H a = some u) : Rd H a u := .inl h
theorem Rd.ok {P : Program} {w : World} {H : Hp} {h : Heap} {a : Addr} {u : HO} (r : Rd H a u) (x : HOk P w H h) : ObjOk P w H h a u := by
  rcases r with r | ⟨o, r⟩
  · exact x a u r
  · obtain ⟨_, q⟩ := x a _ r
    exact q
def Mut : Option HO → Prop
  | some (.lst _) => True
  | some (.dK _) => True
  | some (.dT _) => True
  | some (.set _ _) => True
  | some (.ins _ _ _) => True
  | some (.ext _) => True
  | _ => False
section
variable {P : Program} {w : World} {H : Hp} {h h' : Heap} {x e : Addr} {o' : HO}
theorem HOk.write (ok : HOk P w H h) (mu : Mut (H x)) (he : e = x ∨ H e = some (.own x)) (k : ∀ b u, b ≠ e → h.get? b = some u → h'.get? b = some u) (heo : ∃ u, h'.get? e = some u)
    (new : ObjOk P w (upd H x o') h' x o') : HOk P w (upd H x o') h' := fun b u q => by
  have nown : ∀ c y, H c = some (.own y) → c ≠ x := fun c y r z => by subst z; rw [r] at mu; exact mu
  have ntup : ∀ c xs, H c = some (.tup xs) → c ≠ x := fun c xs r z => by subst z; rw [r] at mu; exact mu
  by_cases hb : b = x
  · subst hb; rw [upd_same] at q; cases q; exact new
  · rw [upd_ne hb] at q
    by_cases hbe : b = e
    · have q' : H b = some (.own x) := by
        rcases he with z | z
        · exact absurd (hbe.trans z) hb
        · rw [hbe]; exact z
      rw [q] at q'; cases q'
      obtain ⟨v, hv⟩ := heo
      exact ⟨v, by rw [hbe]; exact hv⟩
    · refine (ok b u q).stay (fun c v hc r => k c v ?_ r) (fun c r => by rw [upd_ne (nown c b r)]; exact r) fun c xs r => by rw [upd_ne (ntup c xs r)]; exact r
      rcases hc with rfl | hc
      · exact hbe
      · rintro rfl
        rcases he with z | z
        · exact nown c b hc z
        · rw [hc] at z; cases z; exact hb rfl
end
structure Un (fs ex : List Addr) (H H' : Hp) (h h' : Heap) : Prop where
  keep : ∀ b o, h.get? b = some o → H b = none → b ∉ fs → b ∉ ex → h'.get? b = some o
  slot : ∀ b o, h.get? b = some o → H b = none → b ∈ fs → b ∉ ex → ∃ sl, h'.get? b = some { o with slots := sl }
  free : ∀ b o, h.get? b = some o → H b = none → b ∉ ex → H' b = none
  there : ∀ b o, h.get? b = some o → b ∉ ex → ∃ o', h'.get? b = some o'
  tups : ∀ b xs, H b = some (.tup xs) → H' b = some (.tup xs)
  frzs : ∀ b o u, H b = some (.frz o u) → H' b = some (.frz o u)
  tbls : ∀ b ps, H b = some (.tbl ps) → ∃ more, H' b = some (.tbl (ps ++ more))
section
variable {fs fs' ex ex' : List Addr} {H H1 H2 : Hp} {h h1 h2 h' : Heap} {a x e : Addr} {o : HO}
theorem Un.any (u : Un fs ex H H1 h h1) {b : Addr} {ob : Obj} (q : h.get? b = some ob) (n : H b = none) (hx : b ∉ ex) : ∃ sl, h1.get? b = some { ob with slots := sl } := by
  by_cases hb : b ∈ fs
  · exact u.slot b ob q n hb hx
  · exact ⟨ob.slots, u.keep b ob q n hb hx⟩
theorem Un.trans (a : Un fs ex H H1 h h1) (b : Un fs ex H1 H2 h1 h2) : Un fs ex H H2 h h2 where
  keep := fun c ob q n hc hx => b.keep c ob (a.keep c ob q n hc hx) (a.free c ob q n hx) hc hx
  slot := fun c ob q n hc hx => by
    obtain ⟨sl, e1⟩ := a.slot c ob q n hc hx
    obtain ⟨sl', e2⟩ := b.slot c _ e1 (a.free c ob q n hx) hc hx
    exact ⟨sl', e2⟩
  free := fun c ob q n hx => by
    obtain ⟨o', e1⟩ := a.there c ob q hx
    exact b.free c o' e1 (a.free c ob q n hx) hx
  there := fun c ob q hx => by
    obtain ⟨o', e1⟩ := a.there c ob q hx
    exact b.there c o' e1 hx
  tups := fun c xs q => b.tups c xs (a.tups c xs q)
  frzs := fun c ob xs q => b.frzs c ob xs (a.frzs c ob xs q)
  tbls := fun c ps q => by
    obtain ⟨m1, e1⟩ := a.tbls c ps q
    obtain ⟨m2, e2⟩ := b.tbls c _ e1
    exact ⟨m1 ++ m2, by rw [e2, Array.append_assoc]⟩
theorem Un.kept (k : ∀ b u, h.get? b = some u → h'.get? b = some u) : Un fs ex H H h h' :=
  ⟨fun b ob q _ _ _ => k b ob q, fun b ob q _ _ _ => ⟨ob.slots, k b ob q⟩, fun _ _ _ n _ => n, fun b ob q _ => ⟨ob, k b ob q⟩, fun _ _ q => q, fun _ _ _ q => q, fun _ ps q => ⟨#[], by rw [q]; simp⟩⟩
theorem Un.refl : Un fs ex H H h h := Un.kept fun _ _ q => q
theorem Un.laid (k : ∀ b u, h.get? b = some u → h'.get? b = some u) (hp : h.objs.size ≤ a) (hn : H a = none) : Un fs ex H (upd H a o) h h' where
  keep := fun b u q _ _ _ => k b u q
  slot := fun b u q _ _ _ => ⟨u.slots, k b u q⟩
  free := fun b u q n _ => by rw [upd_ne (Nat.ne_of_lt (Nat.lt_of_lt_of_le (Heap.lt_size q) hp))]; exact n
  there := fun b u q _ => ⟨u, k b u q⟩
  tups := fun b xs q => by rw [upd_ne (ne_of_none q hn)]; exact q
  frzs := fun b u xs q => by rw [upd_ne (ne_of_none q hn)]; exact q
  tbls := fun b ps q => ⟨#[], by rw [upd_ne (ne_of_none q hn), q]; simp⟩
theorem Un.write (mu : Mut (H x)) (he : e = x ∨ H e = some (.own x)) (k : ∀ b u, b ≠ e → h.get? b = some u → h'.get? b = some u) (heo : ∃ u, h'.get? e = some u) : Un fs ex H (upd H x o) h h' := by
  have hx : ∀ b, H b = none → b ≠ x := fun b n z => by subst z; rw [n] at mu; exact mu
  have hb : ∀ b, H b = none → b ≠ e := fun b n z => by
    subst z
    rcases he with r | r
    · exact hx b n r
    · rw [n] at r; cases r
  have hm : ∀ b u, H b = some u → ¬ Mut (some u) → b ≠ x := fun b u q nm z => by subst z; rw [q] at mu; exact nm mu
  refine ⟨fun b u q n _ _ => k b u (hb b n) q, fun b u q n _ _ => ⟨u.slots, k b u (hb b n) q⟩, fun b u q n _ => by rw [upd_ne (hx b n)]; exact n, fun b u q _ => ?_,
    fun b xs q => by rw [upd_ne (hm b _ q fun z => z)]; exact q, fun b u xs q => by rw [upd_ne (hm b _ q fun z => z)]; exact q, fun b ps q => ⟨#[], by rw [upd_ne (hm b _ q fun z => z), q]; simp⟩⟩
  by_cases hbe : b = e
  · subst hbe; exact heo
  · exact ⟨u, k b u hbe q⟩
theorem Un.mono (u : Un fs ex H H1 h h1) (hs : ∀ b ∈ fs, b ∈ fs') (hx : ∀ b ∈ ex, b ∈ ex') : Un fs' ex' H H1 h h1 :=
  ⟨fun b ob q n hb he => u.keep b ob q n (fun z => hb (hs b z)) fun z => he (hx b z), fun _ _ q n _ he => u.any q n fun z => he (hx _ z), fun b ob q n he => u.free b ob q n fun z => he (hx b z), fun b ob q he => u.there b ob q fun z => he (hx b z), u.tups, u.frzs, u.tbls⟩
end
def trk (h : Heap) (H : Hp) : List Addr := (List.range h.objs.size).filter fun a => (H a).isSome
def hidT (h : Heap) (H : Hp) : Heap := PySem.W.hideAll h (trk h H)
theorem hidT_size (h : Heap) (H : Hp) : (hidT h H).objs.size = h.objs.size := PySem.W.hideAll_size _ _
theorem hidT_get {h : Heap} {H : Hp} {b : Addr} {o : Obj} (e : h.get? b = some o) (n : H b = none) : (hidT h H).get? b = some o :=
  PySem.W.hideAll_get _ e fun hm => by
    have q : (H b).isSome = true := (List.mem_filter.mp hm).2
    rw [n] at q; simp at q
theorem of_hidT {h : Heap} {H : Hp} {b : Addr} {o : Obj} (e : (hidT h H).get? b = some o) : h.get? b = some o ∧ H b = none := by
  have e' : h.get? b = some o := PySem.W.of_hideAll (trk h H) e
  refine ⟨e', ?_⟩
  cases q : H b with
  | none => rfl
  | some x =>
    have hm : b ∈ trk h H := List.mem_filter.mpr ⟨List.mem_range.mpr (Heap.lt_size e'), by simp [q]⟩
    have z : (hidT h H).get? b = none := PySem.W.hideAll_none (trk h H) hm
    rw [z] at e; cases e
def allNews (g h : Heap) (L : Addr) : List (Addr × Obj) := (List.range h.objs.size).filterMap fun a => if a = L ∨ (g.get? a).isSome = true then none else (h.get? a).map fun o => (a, o)
def rest (g h : Heap) (L d : Addr) : List (Addr × Obj) := (allNews g h L).filter fun p => decide (p.1 ≠ d)
end L2
namespace L2
open PySem PySem.Spec PyProof.Rows
structure Mod (K : PySem.W.Frag) (mg : Str → Option Value) (base : Heap) : Prop where
  kin : K.In base
  glob : base.Ns mainGlobals mg
  blt : ∃ mb, base.Ns builtinsNs mb ∧ ∀ x : Str, x ≠ "__name__" → mb x = bootBuiltins x
  nolimit : base.NoLimit
structure Cx where
  prog : Program
  w : World
  K : PySem.W.Frag
  mg : Str → Option Value
  base : Heap
  A : Around
  N : List Str
  s₀ : Shared
  H₀ : Hp
  env : Env
  outer : List Env
  stack : List Env
  ex : List Addr
  fn : Str → Bool
  calm : Bool
  pn : List (Addr × Obj)
  xe : Value → Shared → Prop
def frs (l : List Env) : List Addr := l.filterMap (·.frame)
abbrev Cx.fs (X : Cx) : List Addr := frs X.outer
def Vis (sc : Scope) (x : Str) : Prop := sc.names.lookup x = some .local ∨ sc.names.lookup x = some .cell ∨ sc.names.lookup x = some .free
def Loc (sc : Scope) (x : Str) : Prop := sc.names.lookup x = some .local ∨ sc.names.lookup x = some .cell
def Look (env : Env) (h : Heap) (m : Str → Option Value) (x : Str) (u : Value) : Prop :=
  (env.kindOf x = some .local ∧ m x = some u) ∨ ((env.kindOf x = some .cell ∨ env.kindOf x = some .free) ∧ ∃ c, env.cells.lookup x = some c ∧ h.IsCell c (some u))
structure Cx.Ok (X : Cx) : Prop where
  mod : Mod X.K X.mg X.base
  kind : X.env.scope.kind = .function
  glob : X.env.globals = mainGlobals
  blt : X.env.builtins = builtinsNs
  above : X.s₀.heap.objs.size ≤ X.env.locals
  inj : ∀ x y c, X.env.cells.lookup x = some c → X.env.cells.lookup y = some c → x = y
  has : ∀ x, (X.env.kindOf x = some .cell ∨ X.env.kindOf x = some .free) → ∃ c, X.env.cells.lookup x = some c
  cab : ∀ x c, X.fn x = true → X.env.cells.lookup x = some c → X.s₀.heap.objs.size ≤ c
  hd : X.calm = true → X.A.handled = none
  frames : X.A.frames = some X.stack
  stk : X.stack = X.outer ∨ (X.stack = X.env :: X.outer ∧ X.env.frame = some X.env.locals)
  exf : ∀ b ∈ X.ex, b ≠ X.env.locals ∧ ∀ x c, X.env.cells.lookup x = some c → c ≠ b
  bs : ∀ b o, X.base.get? b = some o → X.s₀.heap.get? b = some o ∧ X.H₀ b = none
  bsz : X.base.objs.size ≤ X.s₀.heap.objs.size
  noex : ∀ b o, X.base.get? b = some o → b ∉ X.ex
  exfs : ∀ b ∈ X.ex, b ∉ X.fs
  funs : X.s₀.heap.FunFrames X.base X.outer
  frf : ∀ b ∈ X.fs, X.H₀ b = none
structure Inv (X : Cx) (pins : List (Addr × Obj)) (σ : List (Option V)) (H : Hp) (s : Shared) : Prop where
  ok : X.Ok
  os : s.os = X.s₀.os
  bare : AllBare s.gens
  base : Un X.fs X.ex X.H₀ H X.s₀.heap s.heap
  loc : ∃ m, s.heap.Ns X.env.locals m ∧ ∀ (i : Nat) (x : Str) (v : V), X.N[i]? = some x → σ[i]? = some (some v) → Vis X.env.scope x → ∃ u, RelV v u ∧ Look X.env s.heap m x u
  cell : ∀ x c, X.env.cells.lookup x = some c → ∃ v, s.heap.IsCell c v
  free : H X.env.locals = none
  freeC : ∀ x c, X.env.cells.lookup x = some c → H c = none
  pin : ∀ p ∈ X.pn ++ pins, s.heap.get? p.1 = some p.2 ∧ H p.1 = none ∧ p.1 ≠ X.env.locals ∧ p.1 ∉ X.fs ∧ ∀ v, p.2.data ≠ .cell v
  hok : HOk X.prog X.w H s.heap
  len : σ.length = X.N.length
section
variable {X : Cx} {pins : List (Addr × Obj)} {σ : List (Option V)} {H H' : Hp} {s : Shared} {h' : Heap}
theorem Cx.Ok.nofr (ok : X.Ok) {b : Addr} {o : Obj} (e : X.base.get? b = some o) : b ∉ X.fs := fun hb => by
  have := (ok.funs.mem hb).1
  rw [e] at this; cases this
theorem Inv.bs (I : Inv X pins σ H s) : ∀ b o, X.base.get? b = some o → s.heap.get? b = some o ∧ H b = none := fun b o e =>
  ⟨I.base.keep b o (I.ok.bs b o e).1 (I.ok.bs b o e).2 (I.ok.nofr e) (I.ok.noex b o e), I.base.free b o (I.ok.bs b o e).1 (I.ok.bs b o e).2 (I.ok.noex b o e)⟩
theorem Inv.bk (I : Inv X pins σ H s) : ∀ b o, X.base.get? b = some o → s.heap.get? b = some o := fun b o e => (I.bs b o e).1
theorem Inv.mod (I : Inv X pins σ H s) : Mod X.K X.mg X.base := I.ok.mod
theorem Inv.kIn (I : Inv X pins σ H s) : X.K.In s.heap := I.ok.mod.kin.keeps I.bk
theorem Inv.nolimit (I : Inv X pins σ H s) : s.heap.NoLimit := I.ok.mod.nolimit.keeps I.bk
theorem Inv.fr (I : Inv X pins σ H s) : ∃ m, Fr X.base X.env.locals s.heap m :=
  let ⟨m, hn, _⟩ := I.loc
  ⟨m, hn, I.bk, Nat.le_trans I.ok.bsz I.ok.above⟩
theorem Inv.lt (I : Inv X pins σ H s) : X.env.locals < s.heap.objs.size := let ⟨_, hn, _⟩ := I.loc; hn.lt
theorem Inv.sz (I : Inv X pins σ H s) : X.s₀.heap.objs.size ≤ s.heap.objs.size := Nat.le_trans I.ok.above (Nat.le_of_lt I.lt)
theorem Inv.nofs (I : Inv X pins σ H s) {a : Addr} (h : s.heap.objs.size ≤ a) : a ∉ X.fs := fun hb => by
  obtain ⟨_, o, ho, _⟩ := I.ok.funs.mem hb
  exact absurd (Nat.lt_of_lt_of_le (Heap.lt_size ho) (Nat.le_trans I.sz h)) (Nat.lt_irrefl _)
theorem Inv.cne (I : Inv X pins σ H s) : ∀ x c, X.env.cells.lookup x = some c → c ≠ X.env.locals := fun x c e z => by
  obtain ⟨v, o, ho, hd⟩ := I.cell x c e
  obtain ⟨m, ⟨o', es, ep, ho', hd', _⟩, _⟩ := I.loc
  rw [z, ho'] at ho; cases ho; rw [hd'] at hd; cases hd
theorem Inv.funs (I : Inv X pins σ H s) : s.heap.FunFrames X.base X.outer := by
  have all : ∀ (l : List Env), (∀ b ∈ frs l, b ∈ X.fs) → X.s₀.heap.FunFrames X.base l → s.heap.FunFrames X.base l := by
    intro l
    induction l with
    | nil => intro _ _; trivial
    | cons env r ih =>
      intro hs hl
      obtain ⟨hk, ⟨L, o, hf, hn, ho, hd⟩, hr⟩ := hl
      have hL : L ∈ X.fs := hs L (by unfold frs; rw [List.filterMap_cons, hf]; exact List.mem_cons_self)
      obtain ⟨sl, e⟩ := I.base.slot L o ho (I.ok.frf L hL) hL fun z => I.ok.exfs L z hL
      exact ⟨hk, ⟨L, _, hf, hn, e, hd⟩, ih (fun b hb => hs b (by unfold frs; rw [List.filterMap_cons, hf]; exact List.mem_cons_of_mem _ hb)) hr⟩
  exact all X.outer (fun _ hb => hb) I.ok.funs
theorem Inv.stack (I : Inv X pins σ H s) : s.heap.FunFrames X.base X.stack := by
  rcases I.ok.stk with e | ⟨e, hf⟩
  · rw [e]; exact I.funs
  · rw [e]
    obtain ⟨m, hn, _⟩ := I.loc
    refine .cons (by rw [I.ok.kind]; decide) hf hn ?_ I.funs
    exact Heap.get?_none_of_le (Nat.le_trans I.ok.bsz I.ok.above)
theorem Inv.stkSub (I : Inv X pins σ H s) : ∀ b ∈ frs X.stack, b ∈ X.env.locals :: X.fs := fun b hb => by
  rcases I.ok.stk with e | ⟨e, hf⟩
  · rw [e] at hb; exact List.mem_cons_of_mem _ hb
  · rw [e] at hb
    unfold frs at hb
    rw [List.filterMap_cons, hf] at hb
    exact hb
theorem Inv.stkFree (I : Inv X pins σ H s) : ∀ b ∈ frs X.stack, H b = none := fun b hb => by
  rcases List.mem_cons.mp (I.stkSub b hb) with e | hb
  · rw [e]; exact I.free
  · obtain ⟨_, o, ho, _⟩ := I.ok.funs.mem hb
    exact I.base.free b o ho (I.ok.frf b hb) fun z => I.ok.exfs b z hb
theorem Inv.step {g' : Array GenState} {t' : Nat} {d' : Drawn} {ch : List Addr} (I : Inv X pins σ H s)
    (hch : ∀ b ∈ ch, (b ∈ X.ex ∨ X.s₀.heap.objs.size ≤ b) ∧ b ≠ X.env.locals ∧ (∀ x c, X.env.cells.lookup x = some c → c ≠ b) ∧ ∀ p ∈ X.pn ++ pins, p.1 ≠ b)
    (keep : ∀ b o, b ≠ X.env.locals → b ∉ X.fs → b ∉ ch → s.heap.get? b = some o → H b = none → h'.get? b = some o)
    (slot : ∀ b o, b ≠ X.env.locals → b ∈ X.fs → b ∉ ch → s.heap.get? b = some o → H b = none → ∃ sl, h'.get? b = some { o with slots := sl }) (free : ∀ b o, b ∉ ch → s.heap.get? b = some o → H b = none → H' b = none)
    (there : ∀ b o, b ∉ ch → s.heap.get? b = some o → ∃ o', h'.get? b = some o')
    (tups : ∀ b xs, H b = some (.tup xs) → H' b = some (.tup xs)) (frzs : ∀ b o u, H b = some (.frz o u) → H' b = some (.frz o u)) (tbls : ∀ b ps, H b = some (.tbl ps) → ∃ more, H' b = some (.tbl (ps ++ more)))
    (ns : ∀ m, s.heap.Ns X.env.locals m → h'.Ns X.env.locals m) (hok : HOk X.prog X.w H' h') (hg : AllBare g') :
    Inv X pins σ H' { s with heap := h', gens := g', drawn := d', toks := t' } := by
  have neL : ∀ b o, X.s₀.heap.get? b = some o → b ≠ X.env.locals := fun b o e => Nat.ne_of_lt (Nat.lt_of_lt_of_le (Heap.lt_size e) I.ok.above)
  have neC : ∀ b o, X.s₀.heap.get? b = some o → b ∉ X.ex → b ∉ ch := fun b o e hx hb => by
    rcases (hch b hb).1 with z | z
    · exact hx z
    · exact absurd (Nat.lt_of_lt_of_le (Heap.lt_size e) z) (Nat.lt_irrefl _)
  have cellK : ∀ x c, X.env.cells.lookup x = some c → ∀ v, s.heap.IsCell c v → h'.IsCell c v := fun x c e v ⟨o, ho, hd⟩ => by
    have nch : c ∉ ch := fun z => (hch c z).2.2.1 x c e rfl
    by_cases hc : c ∈ X.fs
    · obtain ⟨sl, q⟩ := slot c o (I.cne x c e) hc nch ho (I.freeC x c e)
      exact ⟨_, q, hd⟩
    · exact ⟨o, keep c o (I.cne x c e) hc nch ho (I.freeC x c e), hd⟩
  refine ⟨I.ok, I.os, hg, ⟨fun b o e n hb hx => ?_, fun b o e n hb hx => ?_, fun b o e n hx => ?_, fun b o e hx => ?_, fun b xs e => tups b xs (I.base.tups b xs e), fun b o xs e => frzs b o xs (I.base.frzs b o xs e), fun b ps e => ?_⟩, ?_, fun x c e => ?_, ?_, fun x c e => ?_, fun p hp => ?_, hok, I.len⟩
  · exact keep b o (neL b o e) hb (neC b o e hx) (I.base.keep b o e n hb hx) (I.base.free b o e n hx)
  · obtain ⟨sl, e1⟩ := I.base.slot b o e n hb hx
    obtain ⟨sl', e2⟩ := slot b _ (neL b o e) hb (neC b o e hx) e1 (I.base.free b o e n hx)
    exact ⟨sl', e2⟩
  · obtain ⟨o', e1⟩ := I.base.there b o e hx
    exact free b o' (neC b o e hx) e1 (I.base.free b o e n hx)
  · obtain ⟨o', e1⟩ := I.base.there b o e hx
    exact there b o' (neC b o e hx) e1
  · obtain ⟨m1, e1⟩ := I.base.tbls b ps e
    obtain ⟨m2, e2⟩ := tbls b _ e1
    exact ⟨m1 ++ m2, by rw [e2, Array.append_assoc]⟩
  · obtain ⟨m, hn, hl⟩ := I.loc
    refine ⟨m, ns m hn, fun i x v e1 e2 e3 => ?_⟩
    obtain ⟨u, r, l⟩ := hl i x v e1 e2 e3
    refine ⟨u, r, ?_⟩
    rcases l with l | ⟨k, c, e, z⟩
    · exact .inl l
    · exact .inr ⟨k, c, e, cellK x c e _ z⟩
  · obtain ⟨v, z⟩ := I.cell x c e
    exact ⟨v, cellK x c e v z⟩
  · obtain ⟨m, ⟨o, _, _, ho, _⟩, _⟩ := I.loc
    exact free _ o (fun z => (hch _ z).2.1 rfl) ho I.free
  · obtain ⟨v, o, ho, hd⟩ := I.cell x c e
    exact free c o (fun z => (hch c z).2.2.1 x c e rfl) ho (I.freeC x c e)
  · obtain ⟨e, n, ne, nf, d⟩ := I.pin p hp
    have nch : p.1 ∉ ch := fun z => (hch p.1 z).2.2.2 p hp rfl
    exact ⟨keep p.1 p.2 ne nf nch e n, free p.1 p.2 nch e n, ne, nf, d⟩
theorem Inv.un {t' : Nat} (I : Inv X pins σ H s) (u : Un X.fs [] H H' s.heap h') (hok : HOk X.prog X.w H' h') : Inv X pins σ H' { s with heap := h', toks := t' } := by
  obtain ⟨m, ⟨o, es, ep, ho, r⟩, _⟩ := id I.loc
  obtain ⟨sl, hL⟩ := u.any ho I.free (by simp)
  exact I.step (g' := s.gens) (d' := s.drawn) (ch := []) (fun _ z => nomatch z) (fun b o _ hb _ e n => u.keep b o e n hb (by simp)) (fun b o _ hb _ e n => u.slot b o e n hb (by simp)) (fun b o _ e n => u.free b o e n (by simp)) (fun b o _ e => u.there b o e (by simp)) u.tups u.frzs u.tbls (fun m' hm => by
    obtain ⟨o', es', ep', ho', r'⟩ := hm
    rw [ho] at ho'; cases ho'
    exact ⟨_, es', ep', hL, r'⟩) hok I.bare
theorem Inv.call {g' : Array GenState} {t' : Nat} {d' : Drawn} {ch : List Addr} (I : Inv X pins σ H s) (u : Un (frs X.stack) ch H H' s.heap h') (hok : HOk X.prog X.w H' h') (hg : AllBare g')
    (hch : ∀ b ∈ ch, (b ∈ X.ex ∨ X.s₀.heap.objs.size ≤ b) ∧ b ≠ X.env.locals ∧ (∀ x c, X.env.cells.lookup x = some c → c ≠ b) ∧ ∀ p ∈ X.pn ++ pins, p.1 ≠ b) :
    Inv X pins σ H' { s with heap := h', gens := g', drawn := d', toks := t' } := by
  obtain ⟨m, ⟨o, es, ep, ho, r⟩, _⟩ := id I.loc
  obtain ⟨sl, hL⟩ := u.any ho I.free fun z => (hch _ z).2.1 rfl
  exact I.step (ch := ch) hch (fun b o hL hb hc e n => u.keep b o e n (fun z => (List.mem_cons.mp (I.stkSub b z)).elim hL hb) hc) (fun b o _ _ hc e n => u.any e n hc) (fun b o hc e n => u.free b o e n hc) (fun b o hc e => u.there b o e hc) u.tups u.frzs u.tbls (fun m' hm => by
    obtain ⟨o', es', ep', ho', r'⟩ := hm
    rw [ho] at ho'; cases ho'
    exact ⟨_, es', ep', hL, r'⟩) hok hg
theorem Inv.turned {t' : Nat} {it : Addr} (I : Inv X pins σ H s) (k : ∀ b o, b ≠ it → s.heap.get? b = some o → h'.get? b = some o) (hn : H it = none) (hL : it ≠ X.env.locals)
    (h1 : it ∈ X.ex ∨ X.s₀.heap.objs.size ≤ it) (h2 : ∀ x c, X.env.cells.lookup x = some c → c ≠ it) (h3 : ∀ p ∈ X.pn ++ pins, p.1 ≠ it) : Inv X pins σ H { s with heap := h', toks := t' } := by
  have nit : ∀ b u, H b = some u → b ≠ it := fun b u e z => by rw [z, hn] at e; cases e
  refine I.step (g' := s.gens) (d' := s.drawn) (ch := [it]) (fun b hb => ?_) (fun b o _ _ hc e _ => k b o (fun z => hc (by simp [z])) e) (fun b o _ _ hc e _ => ⟨o.slots, k b o (fun z => hc (by simp [z])) e⟩) (fun _ _ _ _ n => n)
    (fun b o hc e => ⟨o, k b o (fun z => hc (by simp [z])) e⟩) (fun _ _ e => e) (fun _ _ _ e => e) (fun b ps e => ⟨#[], by rw [e]; simp⟩) (fun m hm => ?_) (fun b u e => ?_) I.bare
  · have e : b = it := by simpa using hb
    subst e
    exact ⟨h1, hL, h2, h3⟩
  · obtain ⟨o, es, ep, ho, r⟩ := hm
    exact ⟨o, es, ep, k _ o (Ne.symm hL) ho, r⟩
  · refine (I.hok b u e).stay (fun c v hc q => k c v ?_ q) (fun _ q => q) fun _ _ q => q
    rcases hc with z | z
    · rw [z]; exact nit b u e
    · exact nit c _ z
theorem Inv.tok (I : Inv X pins σ H s) (t : Nat) : Inv X pins σ H { s with toks := t } := I.un (h' := s.heap) (t' := t) Un.refl I.hok
theorem Inv.kept {t' : Nat} (I : Inv X pins σ H s) (k : ∀ b u, s.heap.get? b = some u → h'.get? b = some u) : Inv X pins σ H { s with heap := h', toks := t' } := I.un (Un.kept k) (I.hok.kept k)
theorem Inv.laid {a : Addr} {o : HO} {t' : Nat} (I : Inv X pins σ H s) (k : ∀ b u, s.heap.get? b = some u → h'.get? b = some u) (hp : s.heap.objs.size ≤ a) (new : ObjOk X.prog X.w (upd H a o) h' a o) :
    Inv X pins σ (upd H a o) { s with heap := h', toks := t' } := I.un (Un.laid k hp (I.hok.fresh hp)) (I.hok.laid k hp new)
theorem Inv.write {x e : Addr} {o : HO} {t' : Nat} (I : Inv X pins σ H s) (mu : Mut (H x)) (he : e = x ∨ H e = some (.own x)) (k : ∀ b u, b ≠ e → s.heap.get? b = some u → h'.get? b = some u) (heo : ∃ u, h'.get? e = some u)
    (new : ObjOk X.prog X.w (upd H x o) h' x o) : Inv X pins σ (upd H x o) { s with heap := h', toks := t' } := I.un (Un.write mu he k heo) (I.hok.write mu he k heo new)
theorem Inv.pins_of {pins' : List (Addr × Obj)} (I : Inv X pins σ H s) (h : ∀ p ∈ pins', s.heap.get? p.1 = some p.2 ∧ H p.1 = none ∧ p.1 ≠ X.env.locals ∧ p.1 ∉ X.fs ∧ ∀ v, p.2.data ≠ .cell v) : Inv X pins' σ H s :=
  ⟨I.ok, I.os, I.bare, I.base, I.loc, I.cell, I.free, I.freeC, fun p hp => (List.mem_append.mp hp).elim (fun z => I.pin p (List.mem_append_left _ z)) (h p), I.hok, I.len⟩
theorem nodup_ix {N : List Str} (hN : N.Nodup) {i j : Nat} {x : Str} (a : N[i]? = some x) (b : N[j]? = some x) : i = j := by
  obtain ⟨h1, e1⟩ := List.getElem?_eq_some_iff.mp a
  obtain ⟨h2, e2⟩ := List.getElem?_eq_some_iff.mp b
  exact (List.getElem_inj hN).mp (e1.trans e2.symm)
theorem store_ok2 {M : Model} {A : Around} {E : Value → Shared → Prop} {i : Nat} {x : Str} {v : V} {u : Value} {Q : Unit → Shared → Prop} (I : Inv X pins σ H s) (hN : X.N.Nodup) (hi : X.N[i]? = some x) (hx : Loc X.env.scope x) (r : RelV v u)
    (h : ∀ s', Inv X pins (σ.set i (some v)) H s' → (∃ a, Heap.SameBut a s.heap s'.heap ∧ (a = X.env.locals ∨ X.env.cells.lookup x = some a)) → Q () s') (hf : X.fn x = true ∨ X.env.scope.names.lookup x = some .local := by first | exact .inl rfl | exact .inr rfl | assumption) : wpAny M A (storeName X.env x u) Q E s := by
  obtain ⟨m, hn, hl⟩ := id I.loc
  have hcls : (X.env.scope.kind == .class || (X.env.scope.kind == .module && X.env.locals != X.env.globals)) = false := by rw [I.ok.kind]; rfl
  have hiσ : i < σ.length := by rw [I.len]; exact (List.getElem?_eq_some_iff.mp hi).1
  have cne := I.cne
  have tracked : ∀ {a : Addr} {h' : Heap}, (∃ o, s.heap.get? a = some o ∧ H a = none) → Heap.SameBut a s.heap h' → HOk X.prog X.w H h' := fun {a h'} ha hs b ob e => by
    obtain ⟨_, _, hfree⟩ := ha
    refine (I.hok b ob e).stay (fun c w' hc q => (hs.2 c ?_).trans q) (fun _ q => q) fun _ _ q => q
    rintro rfl
    rcases hc with rfl | hc
    · rw [hfree] at e; cases e
    · rw [hfree] at hc; cases hc
  rcases hx with hk | hk
  · refine wpAny_storeName_local hk hn (fun h' hn' hs => ?_) hcls
    obtain ⟨oL, _, _, hoL, _⟩ := id hn
    refine h _ ⟨I.ok, I.os, I.bare, ⟨fun b o e n hb hx => ?_, fun b o e n hb hx => ?_, I.base.free, fun b o e hx => ?_, I.base.tups, I.base.frzs, I.base.tbls⟩, ⟨_, hn', fun j y v' e1 e2 e3 => ?_⟩, fun y c e => ?_, I.free, I.freeC, fun p hp => ?_, tracked ⟨oL, hoL, I.free⟩ hs, by simpa using I.len⟩ ⟨_, hs, .inl rfl⟩
    · exact (hs.2 b (Nat.ne_of_lt (Nat.lt_of_lt_of_le (Heap.lt_size e) I.ok.above))).trans (I.base.keep b o e n hb hx)
    · obtain ⟨sl, e1⟩ := I.base.slot b o e n hb hx
      exact ⟨sl, (hs.2 b (Nat.ne_of_lt (Nat.lt_of_lt_of_le (Heap.lt_size e) I.ok.above))).trans e1⟩
    · obtain ⟨o', e1⟩ := I.base.there b o e hx
      exact ⟨o', (hs.2 b (Nat.ne_of_lt (Nat.lt_of_lt_of_le (Heap.lt_size e) I.ok.above))).trans e1⟩
    · by_cases hj : j = i
      · subst hj
        rw [hi] at e1; cases e1
        rw [List.getElem?_set_self hiσ] at e2
        cases e2
        exact ⟨u, r, .inl ⟨hk, by simp⟩⟩
      · rw [List.getElem?_set_ne (Ne.symm hj)] at e2
        obtain ⟨u', r', q⟩ := hl j y v' e1 e2 e3
        refine ⟨u', r', ?_⟩
        rcases q with ⟨k, e⟩ | ⟨k, c, e, z⟩
        · refine .inl ⟨k, ?_⟩
          have : y ≠ x := fun e => hj (nodup_ix hN e1 (e ▸ hi))
          simp [this, e]
        · exact .inr ⟨k, c, e, z.sameBut hs (cne y c e)⟩
    · obtain ⟨w', z⟩ := I.cell y c e
      exact ⟨w', z.sameBut hs (cne y c e)⟩
    · obtain ⟨e, n, ne, nf, d⟩ := I.pin p hp
      exact ⟨(hs.2 p.1 ne).trans e, n, ne, nf, d⟩
  · have hfn : X.fn x = true := by
      rcases hf with z | z
      · exact z
      · rw [z] at hk; cases hk
    obtain ⟨c, hc⟩ := I.ok.has x (.inl hk)
    obtain ⟨w', z⟩ := I.cell x c hc
    refine wpAny_storeName_cell I.ok.kind hk hc z (fun h' hc' hs => ?_)
    obtain ⟨oc, hoc, hocd⟩ := id z
    refine h { s with heap := h' } ⟨I.ok, I.os, I.bare, ⟨fun b o e n hb hx => ?_, fun b o e n hb hx => ?_, I.base.free, fun b o e hx => ?_, I.base.tups, I.base.frzs, I.base.tbls⟩, ⟨m, hn.sameBut hs (Ne.symm (cne x c hc)), fun j y v' e1 e2 e3 => ?_⟩, fun y c' e => ?_, I.free, I.freeC, fun p hp => ?_, tracked ⟨oc, hoc, I.freeC x c hc⟩ hs, by simpa using I.len⟩ ⟨c, hs, .inr hc⟩
    · exact (hs.2 b (Nat.ne_of_lt (Nat.lt_of_lt_of_le (Heap.lt_size e) (I.ok.cab x c hfn hc)))).trans (I.base.keep b o e n hb hx)
    · obtain ⟨sl, e1⟩ := I.base.slot b o e n hb hx
      exact ⟨sl, (hs.2 b (Nat.ne_of_lt (Nat.lt_of_lt_of_le (Heap.lt_size e) (I.ok.cab x c hfn hc)))).trans e1⟩
    · obtain ⟨o', e1⟩ := I.base.there b o e hx
      exact ⟨o', (hs.2 b (Nat.ne_of_lt (Nat.lt_of_lt_of_le (Heap.lt_size e) (I.ok.cab x c hfn hc)))).trans e1⟩
    · by_cases hj : j = i
      · subst hj
        rw [hi] at e1; cases e1
        rw [List.getElem?_set_self hiσ] at e2
        cases e2
        exact ⟨u, r, .inr ⟨.inl hk, c, hc, hc'⟩⟩
      · rw [List.getElem?_set_ne (Ne.symm hj)] at e2
        obtain ⟨u', r', q⟩ := hl j y v' e1 e2 e3
        refine ⟨u', r', ?_⟩
        rcases q with q | ⟨k, c', e, z'⟩
        · exact .inl q
        · refine .inr ⟨k, c', e, z'.sameBut hs ?_⟩
          rintro rfl
          exact hj (nodup_ix hN e1 (I.ok.inj _ _ _ e hc ▸ hi))
    · by_cases hcc : c' = c
      · subst hcc; exact ⟨_, hc'⟩
      · obtain ⟨w2, z2⟩ := I.cell y c' e
        exact ⟨w2, z2.sameBut hs hcc⟩
    · obtain ⟨e, n, ne, nf, d⟩ := I.pin p hp
      refine ⟨(hs.2 p.1 ?_).trans e, n, ne, nf, d⟩
      intro q
      rw [q, hoc] at e
      have q' : oc = p.2 := Option.some.inj e
      exact d w' (by rw [← q']; exact hocd)
theorem store_ok {M : Model} {A : Around} {E : Value → Shared → Prop} {i : Nat} {x : Str} {v : V} {u : Value} {Q : Unit → Shared → Prop} (I : Inv X pins σ H s) (hN : X.N.Nodup) (hi : X.N[i]? = some x) (hx : Loc X.env.scope x) (r : RelV v u)
    (h : ∀ s', Inv X pins (σ.set i (some v)) H s' → Q () s') (hf : X.fn x = true ∨ X.env.scope.names.lookup x = some .local := by first | exact .inl rfl | exact .inr rfl | assumption) : wpAny M A (storeName X.env x u) Q E s :=
  store_ok2 I hN hi hx r (fun s' I' _ => h s' I') hf
theorem Inv.call' {s' : Shared} {ch : List Addr} (I : Inv X pins σ H s) (ho : s'.os = s.os) (u : Un (frs X.stack) ch H H' s.heap s'.heap) (hok : HOk X.prog X.w H' s'.heap) (hg : AllBare s'.gens)
    (hch : ∀ b ∈ ch, (b ∈ X.ex ∨ X.s₀.heap.objs.size ≤ b) ∧ b ≠ X.env.locals ∧ (∀ x c, X.env.cells.lookup x = some c → c ≠ b) ∧ ∀ p ∈ X.pn ++ pins, p.1 ≠ b) : Inv X pins σ H' s' := by
  obtain ⟨h', g', d', t', o'⟩ := s'
  have e : o' = s.os := ho
  subst e
  exact I.call (g' := g') (t' := t') (d' := d') u hok hg hch
end
abbrev XK := Value → Option Addr → Hp → Prop
abbrev St := List (Option V)
abbrev VK := V → Hp → Prop
abbrev TE := St → Hp → VK → Prop
abbrev TT := St → Hp → (Bool → Hp → Prop) → Prop
abbrev TA := St → Hp → (List V → Hp → Prop) → Prop
structure Ends where
  nx : St → Hp → Prop
  rt : VK
  bk : St → Hp → Prop := fun _ _ => False
  ct : St → Hp → Prop := fun _ _ => False
abbrev TS := Ends → St → Hp → Prop
def EP (X : Cx) (pins : List (Addr × Obj)) (σ : St) (Q : VK) (u : Value) (s' : Shared) : Prop := ∃ v H', Inv X pins σ H' s' ∧ RelV v u ∧ Q v H'
def TP (X : Cx) (pins : List (Addr × Obj)) (σ : St) (Q : Bool → Hp → Prop) (b : Bool) (s' : Shared) : Prop := ∃ H', Inv X pins σ H' s' ∧ Q b H'
def AP (X : Cx) (pins : List (Addr × Obj)) (σ : St) (Q : List V → Hp → Prop) (us : List Value) (s' : Shared) : Prop := ∃ vs H', Inv X pins σ H' s' ∧ Vals vs us ∧ Q vs H'
def SP (X : Cx) (pins : List (Addr × Obj)) (D : Ends) (f : Flow) (s' : Shared) : Prop :=
  match f with
  | .next => ∃ σ' H', Inv X pins σ' H' s' ∧ D.nx σ' H'
  | .brk => ∃ σ' H', Inv X pins σ' H' s' ∧ D.bk σ' H'
  | .cont => ∃ σ' H', Inv X pins σ' H' s' ∧ D.ct σ' H'
  | .ret u => ∃ v σ' H', Inv X pins σ' H' s' ∧ RelV v u ∧ D.rt v H'
def PE (X : Cx) (e : Expr) (t : TE) : Prop :=
  ∀ (pins : List (Addr × Obj)) (s : Shared) (σ : St) (H : Hp) (Q : VK), Inv X pins σ H s → t σ H Q → wpAny (model X.prog X.w) X.A (eval e X.env) (EP X pins σ Q) X.xe s
def PT (X : Cx) (e : Expr) (t : TT) : Prop :=
  ∀ (pins : List (Addr × Obj)) (s : Shared) (σ : St) (H : Hp) (Q : Bool → Hp → Prop), Inv X pins σ H s → t σ H Q → wpAny (model X.prog X.w) X.A (isTrue e X.env (eval e X.env)) (TP X pins σ Q) X.xe s
def PW (X : Cx) (e : Expr) (t : TT) : Prop :=
  ∀ (whole : Sem Value) (pins : List (Addr × Obj)) (s : Shared) (σ : St) (H : Hp) (Q : Bool → Hp → Prop), Inv X pins σ H s → t σ H Q → wpAny (model X.prog X.w) X.A (isTrue e X.env whole) (TP X pins σ Q) X.xe s
theorem PW.pt {X : Cx} {e : Expr} {t : TT} (h : PW X e t) : PT X e t := h _
def PA (X : Cx) (es : List Expr) (t : TA) : Prop :=
  ∀ (pos : Pos) (pins : List (Addr × Obj)) (s : Shared) (σ : St) (H : Hp) (Q : List V → Hp → Prop), Inv X pins σ H s → t σ H Q → wpAny (model X.prog X.w) X.A (spliced (backTo pos (starEach es X.env))) (AP X pins σ Q) X.xe s
def PS (X : Cx) (st : Stmt) (t : TS) : Prop :=
  ∀ (pins : List (Addr × Obj)) (s : Shared) (σ : St) (H : Hp) (D : Ends), Inv X pins σ H s → t D σ H → wpAny (model X.prog X.w) X.A (exec st X.env) (SP X pins D) X.xe s
def PSs (X : Cx) (st : List Stmt) (t : TS) : Prop :=
  ∀ (pins : List (Addr × Obj)) (s : Shared) (σ : St) (H : Hp) (D : Ends), Inv X pins σ H s → t D σ H → wpAny (model X.prog X.w) X.A (execs st X.env) (SP X pins D) X.xe s
theorem thn {α : Type} {t : Sem α} {Q Q' : α → Shared → Prop} {M : Model} {A : Around} {E : Value → Shared → Prop} {s : Shared} (h : wpAny M A t Q E s) (hQ : ∀ a s, Q a s → Q' a s) : wpAny M A t Q' E s := wpAny_mono h hQ fun _ _ x => x
end L2
namespace L2
open PySem PySem.Spec PyProof.Rows
section
variable {X : Cx}
def tVar (i : Nat) : TE := fun σ H Q => ∃ v, σ[i]? = some (some v) ∧ Q v H
def tC (v : V) : TE := fun _ H Q => Q v H
theorem pe_var {i : Nat} {x : Str} {pos : Pos} (hN : X.N[i]? = some x) (hv : Vis X.env.scope x) (hd : (x == ("__debug__" : Str)) = false := by decide) (hcd : (x == ("__classdict__" : Str)) = false := by decide) : PE X (.Name x pos) (tVar i) := by
  intro pins s σ H Q I h
  obtain ⟨v, e, h⟩ := h
  obtain ⟨m, hn, hl⟩ := I.loc
  obtain ⟨u, r, l⟩ := hl i x v hN e hv
  have fin : EP X pins σ Q u s := ⟨v, H, I, r, h⟩
  rcases l with ⟨hk, hm⟩ | ⟨hk, c, hc, hcell⟩
  · exact wpAny_Name (wpAny_loadName_local I.ok.kind hk hn hm fin) hd
  · rcases hk with hk | hk
    · exact wpAny_Name (wpAny_loadName_cell I.ok.kind hk hc hcell fin) hd
    · exact wpAny_Name (wpAny_loadName_free I.ok.kind hk hc hcell fin hcd) hd
theorem pe_int {i j pos} : PE X (.Constant (.int i) j pos) (tC (.int i)) := fun _ _ _ H _ I h => wpAny_Constant_int ⟨.int i, H, I.tok _, ⟨_, rfl⟩, h⟩
theorem pe_bl {b j pos} : PE X (.Constant (.bool b) j pos) (tC (.bl b)) := fun _ _ _ H _ I h => Constant_bool ⟨.bl b, H, I, rfl, h⟩
theorem pe_non {j pos} : PE X (.Constant .none j pos) (tC .non) := fun _ _ _ H _ I h => Constant_none ⟨.non, H, I, rfl, h⟩
theorem pe_str {x j pos} : PE X (.Constant (.str x) j pos) (tC (.str x)) := fun _ _ _ H _ I h => Calls.Constant_str ⟨.str x, H, I.tok _, ⟨_, rfl⟩, h⟩
def Gl (X : Cx) (x : Str) : Prop := X.env.kindOf x = some .globalImplicit
theorem ld_glob {E : Value → Shared → Prop} {pins : List (Addr × Obj)} {s : Shared} {σ : St} {H : Hp} {x : Str} {u : Value} {pos : Pos} {Q : Value → Shared → Prop} (I : Inv X pins σ H s) (hg : Gl X x) (hm : X.mg x = some u) (h : Q u s)
    (hd : (x == ("__debug__" : Str)) = false := by decide) : wpAny (model X.prog X.w) X.A (eval (.Name x pos) X.env) Q E s :=
  Calls.Name_function_global I.ok.kind hg (Calls.loadGlobal_global (by rw [I.ok.glob]; exact I.mod.glob.keeps I.bk) hm h) hd
theorem ld_blt {E : Value → Shared → Prop} {pins : List (Addr × Obj)} {s : Shared} {σ : St} {H : Hp} {x : Str} {u : Value} {pos : Pos} {Q : Value → Shared → Prop} (I : Inv X pins σ H s) (hg : Gl X x) (hm : X.mg x = none) (hv : bootBuiltins x = some u) (h : Q u s)
    (hn : x ≠ "__name__" := by decide) (hd : (x == ("__debug__" : Str)) = false := by decide) : wpAny (model X.prog X.w) X.A (eval (.Name x pos) X.env) Q E s := by
  obtain ⟨mb, h1, h2⟩ := I.mod.blt
  exact Calls.Name_function_global I.ok.kind hg (Calls.loadGlobal_builtin (by rw [I.ok.glob]; exact I.mod.glob.keeps I.bk) hm (by rw [I.ok.blt]; exact h1.keeps I.bk) ((h2 x hn).trans hv) h) hd
theorem pe_glob {x : Str} {v : V} {u : Value} {pos : Pos} (hg : Gl X x) (hm : X.mg x = some u) (r : RelV v u) (hd : (x == ("__debug__" : Str)) = false := by decide) : PE X (.Name x pos) (tC v) :=
  fun _ _ _ H _ I h => ld_glob I hg hm ⟨v, H, I, r, h⟩ hd
theorem pe_bltn {x : Str} {v : V} {u : Value} {pos : Pos} (hg : Gl X x) (hm : X.mg x = none) (hv : bootBuiltins x = some u) (r : RelV v u) (hn : x ≠ "__name__" := by decide) (hd : (x == ("__debug__" : Str)) = false := by decide) : PE X (.Name x pos) (tC v) :=
  fun _ _ _ H _ I h => ld_blt I hg hm hv ⟨v, H, I, r, h⟩ hn hd
variable {a b : Expr} {ta tb : TE} {pos : Pos}
def tB (t : TE) : TT := fun σ H Q => t σ H fun x H1 => ∃ c, x = .bl c ∧ Q c H1
theorem pt_val {e : Expr} {t : TE} (h : PE X e t) (he : ∀ whole, isTrue e X.env whole = (do let v ← whole; standAt e.pos; holding [v] (truthy v)) := by intro _; rfl) : PT X e (tB t) := by
  intro pins s σ H Q I hw
  refine isTrue_plain (thn (h pins s σ H _ I hw) fun v s1 ⟨x, H1, I1, r1, q1⟩ => ?_) (he _)
  obtain ⟨d, rfl, q⟩ := q1
  cases r1
  exact wpAny_truthy_bool ⟨H1, I1, q⟩
variable {tA tB' : TT} {rest : List Expr}
def tAnd (t u : TT) : TT := fun σ H Q => t σ H fun c H1 => if c = true then u σ H1 Q else Q false H1
def tOr (t u : TT) : TT := fun σ H Q => t σ H fun c H1 => if c = true then Q true H1 else u σ H1 Q
def tNot (t : TT) : TT := fun σ H Q => t σ H fun c H1 => Q (!c) H1
theorem pw_and1 (ha : PT X a tA) : PW X (.BoolOp .And [a] pos) tA := by
  intro wh pins s σ H Q I h
  refine isTrue_and (thn (ha pins s σ H Q I h) fun c s1 e => ?_)
  cases c with
  | true => exact isTrue_and_nil e
  | false => exact e
theorem pw_or1 (ha : PT X a tA) : PW X (.BoolOp .Or [a] pos) tA := by
  intro wh pins s σ H Q I h
  refine isTrue_or (thn (ha pins s σ H Q I h) fun c s1 e => ?_)
  cases c with
  | false => exact isTrue_or_nil e
  | true => exact e
theorem pw_and (ha : PT X a tA) (hb : PW X (.BoolOp .And (b :: rest) pos) tB') : PW X (.BoolOp .And (a :: b :: rest) pos) (tAnd tA tB') := by
  intro wh pins s σ H Q I h
  refine isTrue_and (thn (ha pins s σ H _ I h) fun c s1 ⟨H1, I1, q1⟩ => ?_)
  cases c with
  | true => exact hb wh pins s1 σ H1 Q I1 q1
  | false => exact ⟨H1, I1, q1⟩
theorem pw_or (ha : PT X a tA) (hb : PW X (.BoolOp .Or (b :: rest) pos) tB') : PW X (.BoolOp .Or (a :: b :: rest) pos) (tOr tA tB') := by
  intro wh pins s σ H Q I h
  refine isTrue_or (thn (ha pins s σ H _ I h) fun c s1 ⟨H1, I1, q1⟩ => ?_)
  cases c with
  | true => exact ⟨H1, I1, q1⟩
  | false => exact hb wh pins s1 σ H1 Q I1 q1
theorem pt_not (ha : PT X a tA) : PT X (.UnaryOp .Not a pos) (tNot tA) := by
  intro pins s σ H Q I h
  exact isTrue_not (ha pins s σ H (fun c H1 => Q (!c) H1) I h)
def tAndV (ta tb : TE) : TE := fun σ H Q => ta σ H fun x H1 => ∃ c, x = .bl c ∧ if c = true then tb σ H1 Q else Q (.bl false) H1
def tOrV (ta tb : TE) : TE := fun σ H Q => ta σ H fun x H1 => ∃ c, x = .bl c ∧ if c = true then Q (.bl true) H1 else tb σ H1 Q
def tNotV (ta : TE) : TE := fun σ H Q => ta σ H fun x H1 => ∃ c, x = .bl c ∧ Q (.bl (!c)) H1
theorem pe_one {op} {t : TE} (h : PE X a t) : PE X (.BoolOp op [a] pos) t := fun pins s σ H Q I hw => BoolOp_one (h pins s σ H Q I hw)
theorem pe_and (ha : PE X a ta) (hb : PE X (.BoolOp .And (b :: rest) pos) tb) : PE X (.BoolOp .And (a :: b :: rest) pos) (tAndV ta tb) := by
  intro pins s σ H Q I h
  refine BoolOp_and (thn (ha pins s σ H _ I h) fun v s1 ⟨x, H1, I1, r1, q1⟩ => ?_)
  obtain ⟨c, rfl, q1⟩ := q1
  cases r1
  refine wpAny_truthy_bool ?_
  cases c with
  | true => exact hb pins s1 σ H1 Q I1 q1
  | false => exact ⟨.bl false, H1, I1, rfl, q1⟩
theorem pe_or (ha : PE X a ta) (hb : PE X (.BoolOp .Or (b :: rest) pos) tb) : PE X (.BoolOp .Or (a :: b :: rest) pos) (tOrV ta tb) := by
  intro pins s σ H Q I h
  refine BoolOp_or (thn (ha pins s σ H _ I h) fun v s1 ⟨x, H1, I1, r1, q1⟩ => ?_)
  obtain ⟨c, rfl, q1⟩ := q1
  cases r1
  refine wpAny_truthy_bool ?_
  cases c with
  | false => exact hb pins s1 σ H1 Q I1 q1
  | true => exact ⟨.bl true, H1, I1, rfl, q1⟩
theorem pe_not (ha : PE X a ta) : PE X (.UnaryOp .Not a pos) (tNotV ta) := by
  intro pins s σ H Q I h
  refine UnaryOp_ (thn (ha pins s σ H _ I h) fun v s1 ⟨x, H1, I1, r1, q1⟩ => ?_)
  obtain ⟨c, rfl, q1⟩ := q1
  cases r1
  exact not_of (wpAny_truthy_bool ⟨.bl (!c), H1, I1, rfl, q1⟩)
def tIf (t : TT) (ta tb : TE) : TE := fun σ H Q => t σ H fun c H1 => if c = true then ta σ H1 Q else tb σ H1 Q
theorem pe_ifExp {c : Expr} (hc : PT X c tA) (ha : PE X a ta) (hb : PE X b tb) : PE X (.IfExp c a b pos) (tIf tA ta tb) := by
  intro pins s σ H Q I h
  refine wpAny_IfExp (thn (hc pins s σ H _ I h) fun d s1 ⟨H1, I1, q1⟩ => ?_)
  cases d with
  | true => exact ha pins s1 σ H1 Q I1 q1
  | false => exact hb pins s1 σ H1 Q I1 q1
end
end L2
namespace L2
open PySem PySem.Spec PyProof.Rows
def SqL (K : PySem.W.Frag) (H : Hp) (a : Addr) (xs : List V) : Prop :=
  Rd H a (.lst xs) ∨
    ∃ (o : Obj) (its : Array Value) (n : Nat), K.lookup a = some o ∧ o.cls = .type "list" ∧ o.dict = none ∧ o.data = .seq its n ∧ its.size ≤ sizeLine ∧ Vals xs its.toList
def SqT (K : PySem.W.Frag) (H : Hp) (a : Addr) (xs : List V) : Prop :=
  Rd H a (.tup xs) ∨
    ∃ (o : Obj) (its : Array Value) (n : Nat), K.lookup a = some o ∧ o.cls = .type "tuple" ∧ o.data = .seq its n ∧ its.size ≤ sizeLine ∧ Vals xs its.toList
def absV : Value → Option V
  | .none => some .non
  | .bool b => some (.bl b)
  | .int i _ => some (.int i)
  | .str x _ => some (.str x)
  | .bytes b _ => some (.byt b)
  | .float b _ => some (.flt b)
  | .ref a => some (.ref a)
  | .type n => some (.ty n)
  | _ => none
theorem RelV.abs {x : V} {u : Value} (r : RelV x u) : absV u = some x := by
  cases x with
  | non => cases r; rfl
  | bl _ => cases r; rfl
  | int _ => obtain ⟨t, rfl⟩ := r; rfl
  | str _ => obtain ⟨t, rfl⟩ := r; rfl
  | byt _ => obtain ⟨t, rfl⟩ := r; rfl
  | flt _ => obtain ⟨t, rfl⟩ := r; rfl
  | ref _ => cases r; rfl
  | ty _ => cases r; rfl
theorem RelV.inj {x y : V} {u : Value} (r : RelV x u) (q : RelV y u) : x = y := Option.some.inj (r.abs.symm.trans q.abs)
theorem Vals.inj : ∀ {xs ys : List V} {us : List Value}, Vals xs us → Vals ys us → xs = ys
  | _, _, _, .nil, .nil => rfl
  | _, _, _, .cons r t, .cons r' t' => by rw [r.inj r', Vals.inj t t']
section
variable {X : Cx} {pins : List (Addr × Obj)} {σ : St} {H : Hp} {s : Shared} {a : Addr} {xs ys : List V}
theorem SqL.of {K : PySem.W.Frag} (h : H a = some (.lst xs)) : SqL K H a xs := .inl (.inl h)
theorem SqT.of {K : PySem.W.Frag} (h : H a = some (.tup xs)) : SqT K H a xs := .inl (.inl h)
theorem Inv.list (I : Inv X pins σ H s) (h : SqL X.K H a xs) : ∃ its : List Value, Vals xs its ∧ PlainL s.heap a its.toArray ∧ xs.length ≤ sizeLine := by
  rcases h with h | ⟨o, its, n, hk, hc, hd, hs, hz, r⟩
  · obtain ⟨z, its, n, r, e⟩ := h.ok I.hok
    exact ⟨its, r, ⟨_, n, e, rfl, rfl, rfl⟩, z⟩
  · refine ⟨its.toList, r, ⟨o, n, I.kIn a o hk, hc, hd, by simpa using hs⟩, ?_⟩
    have e := r.length
    simp only [Array.length_toList] at e
    omega
theorem Inv.tuple (I : Inv X pins σ H s) (h : SqT X.K H a xs) : ∃ its : List Value, Vals xs its ∧ IsTup s.heap a its.toArray ∧ xs.length ≤ sizeLine := by
  rcases h with h | ⟨o, its, n, hk, hc, hs, hz, r⟩
  · obtain ⟨z, its, r, p⟩ := h.ok I.hok
    exact ⟨its, r, p, z⟩
  · refine ⟨its.toList, r, ⟨o, I.kIn a o hk, hc, n, by simpa using hs⟩, ?_⟩
    have e := r.length
    simp only [Array.length_toList] at e
    omega
theorem Inv.list_inj (I : Inv X pins σ H s) (h : SqL X.K H a xs) (h' : SqL X.K H a ys) : xs = ys := by
  obtain ⟨its, r, ⟨o, n, e, _, _, d⟩, _⟩ := I.list h
  obtain ⟨its', r', ⟨o', n', e', _, _, d'⟩, _⟩ := I.list h'
  rw [e] at e'; cases e'
  rw [d] at d'
  injection d' with d1 _
  have : its = its' := by simpa using congrArg Array.toList d1
  subst this
  exact r.inj r'
theorem Inv.tuple_inj (I : Inv X pins σ H s) (h : SqT X.K H a xs) (h' : SqT X.K H a ys) : xs = ys := by
  obtain ⟨its, r, ⟨o, e, _, n, d⟩, _⟩ := I.tuple h
  obtain ⟨its', r', ⟨o', e', _, n', d'⟩, _⟩ := I.tuple h'
  rw [e] at e'; cases e'
  rw [d] at d'
  injection d' with d1 _
  have : its = its' := by simpa using congrArg Array.toList d1
  subst this
  exact r.inj r'
end
abbrev Cx.wish (X : Cx) (E : Value → Shared → Prop) : Cx := { X with xe := E }
abbrev Cx.nox (X : Cx) : Cx := X.wish fun _ _ => False
theorem Cx.Ok.wish {X : Cx} (ok : X.Ok) (E : Value → Shared → Prop) : (X.wish E).Ok :=
  ⟨ok.mod, ok.kind, ok.glob, ok.blt, ok.above, ok.inj, ok.has, ok.cab, ok.hd, ok.frames, ok.stk, ok.exf, ok.bs, ok.bsz, ok.noex, ok.exfs, ok.funs, ok.frf⟩
theorem Cx.Ok.unwish {X : Cx} {E : Value → Shared → Prop} (ok : (X.wish E).Ok) : X.Ok :=
  ⟨ok.mod, ok.kind, ok.glob, ok.blt, ok.above, ok.inj, ok.has, ok.cab, ok.hd, ok.frames, ok.stk, ok.exf, ok.bs, ok.bsz, ok.noex, ok.exfs, ok.funs, ok.frf⟩
section
variable {X : Cx} {pins : List (Addr × Obj)} {σ : St} {H : Hp} {s : Shared} {E : Value → Shared → Prop}
theorem Inv.wish (I : Inv X pins σ H s) (E : Value → Shared → Prop) : Inv (X.wish E) pins σ H s := ⟨I.ok.wish E, I.os, I.bare, I.base, I.loc, I.cell, I.free, I.freeC, I.pin, I.hok, I.len⟩
theorem Inv.unwish (I : Inv (X.wish E) pins σ H s) : Inv X pins σ H s := ⟨I.ok.unwish, I.os, I.bare, I.base, I.loc, I.cell, I.free, I.freeC, I.pin, I.hok, I.len⟩
theorem SP.unwish {D : Ends} {f : Flow} {s' : Shared} (h : SP (X.wish E) pins D f s') : SP X pins D f s' := by
  cases f with
  | next => obtain ⟨σ', H', I, q⟩ := h; exact ⟨σ', H', I.unwish, q⟩
  | brk => obtain ⟨σ', H', I, q⟩ := h; exact ⟨σ', H', I.unwish, q⟩
  | cont => obtain ⟨σ', H', I, q⟩ := h; exact ⟨σ', H', I.unwish, q⟩
  | ret u => obtain ⟨v, σ', H', I, r, q⟩ := h; exact ⟨v, σ', H', I.unwish, r, q⟩
theorem PE.nox {e : Expr} {t : TE} (h : PE X.nox e t) : PE X e t := fun pins s σ H Q I hw =>
  wpAny_mono (h pins s σ H Q (I.wish _) hw) (fun _ _ ⟨v, H', I', r, q⟩ => ⟨v, H', I'.unwish, r, q⟩) fun _ _ z => False.elim z
theorem PT.nox {e : Expr} {t : TT} (h : PT X.nox e t) : PT X e t := fun pins s σ H Q I hw =>
  wpAny_mono (h pins s σ H Q (I.wish _) hw) (fun _ _ ⟨H', I', q⟩ => ⟨H', I'.unwish, q⟩) fun _ _ z => False.elim z
theorem PSs.nox {st : List Stmt} {t : TS} (h : PSs X.nox st t) : PSs X st t := fun pins s σ H D I hw =>
  wpAny_mono (h pins s σ H D (I.wish _) hw) (fun _ _ q => q.unwish) fun _ _ z => False.elim z
end
section
variable {X : Cx} {st : Stmt} {rest : List Stmt} {t u : TS} {e : Expr} {te : TE} {pos : Pos}
def tNext : TS := fun D σ H => D.nx σ H
def tSeq (t u : TS) : TS := fun D σ H => t { D with nx := u D } σ H
theorem pss_nil : PSs X [] tNext := fun _ _ σ H _ I h => wpAny_execs_nil ⟨σ, H, I, h⟩
theorem pss_cons (h1 : PS X st t) (h2 : PSs X rest u) : PSs X (st :: rest) (tSeq t u) := by
  intro pins s σ H D I h
  refine wpAny_execs_cons (thn (h1 pins s σ H { D with nx := u D } I h) fun f s1 q => ?_)
  cases f with
  | next =>
    obtain ⟨σ', H', I', q⟩ := q
    exact h2 pins s1 σ' H' D I' q
  | ret v => exact q
  | brk => exact q
  | cont => exact q
theorem pss_one (h1 : PS X st t) : PSs X [st] t := by
  intro pins s σ H D I h
  refine wpAny_execs_cons (thn (h1 pins s σ H D I h) fun f s1 q => ?_)
  cases f with
  | next => exact wpAny_execs_nil q
  | ret v => exact q
  | brk => exact q
  | cont => exact q
theorem Inv.quiet {pins : List (Addr × Obj)} {σ : St} {H : Hp} {s : Shared} (I : Inv X pins σ H s) : interactive X.env = false := by simp [interactive, I.ok.kind]
def tDrop (te : TE) : TS := fun D σ H => te σ H fun _ H1 => D.nx σ H1
theorem ps_expr (he : PE X e te) (hs : swapsWith e none pos.line X.env = pure false := by rfl) : PS X (.Expr e pos) (tDrop te) := by
  intro pins s σ H D I h
  exact wpAny_Expr_any (thn (he pins s σ H _ I h) fun v s1 ⟨x, H1, I1, r1, q1⟩ => ⟨σ, H1, I1, q1⟩) I.quiet hs
def tRet (te : TE) : TS := fun D σ H => te σ H D.rt
theorem ps_ret (he : PE X e te) : PS X (.Return (some e) pos) (tRet te) := by
  intro pins s σ H D I h
  exact wpAny_Return_some (thn (he pins s σ H _ I h) fun v s1 ⟨x, H1, I1, r1, q1⟩ => ⟨x, σ, H1, I1, r1, q1⟩)
def tIfS (c : TT) (t u : TS) : TS := fun D σ H => c σ H fun b H1 => if b = true then t D σ H1 else u D σ H1
theorem ps_if {c : Expr} {a b : List Stmt} {tc : TT} (hc : PT X c tc) (ha : PSs X a t) (hb : PSs X b u) : PS X (.If c a b pos) (tIfS tc t u) := by
  intro pins s σ H D I h
  refine wpAny_If (thn (hc pins s σ H _ I h) fun d s1 ⟨H1, I1, q1⟩ => ?_)
  cases d with
  | true => exact ha pins s1 σ H1 D I1 q1
  | false => exact hb pins s1 σ H1 D I1 q1
def tNever : TS := fun _ _ _ => False
theorem ps_never : PS X st tNever := fun _ _ _ _ _ _ h => h.elim
end
abbrev TG := V → St → Hp → (St → Hp → Prop) → Prop
abbrev TGs := List V → St → Hp → (St → Hp → Prop) → Prop
def PG (X : Cx) (target : Expr) (t : TG) : Prop :=
  ∀ (pins : List (Addr × Obj)) (s : Shared) (σ : St) (H : Hp) (v : V) (u : Value) (Q : St → Hp → Prop), Inv X pins σ H s → RelV v u → t v σ H Q →
    wpAny (model X.prog X.w) X.A (assign target X.env u) (fun _ s' => ∃ σ' H', Inv X pins σ' H' s' ∧ Q σ' H') X.xe s
def PGs (X : Cx) (ts : List Expr) (t : TGs) : Prop :=
  ∀ (pins : List (Addr × Obj)) (s : Shared) (σ : St) (H : Hp) (vs : List V) (us : List Value) (Q : St → Hp → Prop), Inv X pins σ H s → Vals vs us → t vs σ H Q →
    wpAny (model X.prog X.w) X.A (assignInOrder ((assignEach ts X.env).map (·.2)) us) (fun _ s' => ∃ σ' H', Inv X pins σ' H' s' ∧ Q σ' H') X.xe s
abbrev TSet := V → V → V → Hp → (Hp → Prop) → Prop
def PSet (X : Cx) (t : TSet) : Prop :=
  ∀ (pins : List (Addr × Obj)) (s : Shared) (σ : St) (H : Hp) (o i v : V) (ov iv u : Value) (Q : Hp → Prop), Inv X pins σ H s → RelV o ov → RelV i iv → RelV v u → t o i v H Q →
    wpAny (model X.prog X.w) X.A (setItem ov iv u) (fun _ s' => ∃ H', Inv X pins σ H' s' ∧ Q H') X.xe s
section
variable {X : Cx} {pos : Pos}
def gName (i : Nat) : TG := fun v σ H Q => Q (σ.set i (some v)) H
theorem pg_name {i : Nat} {x : Str} (hN : X.N.Nodup) (hi : X.N[i]? = some x) (hx : Loc X.env.scope x) (hf : X.fn x = true ∨ X.env.scope.names.lookup x = some .local := by first | exact .inl rfl | exact .inr rfl | assumption) : PG X (.Name x pos) (gName i) := by
  intro pins s σ H v u Q I r h
  exact wpAny_assign_Name (store_ok I hN hi hx r (fun s' I' => ⟨_, H, I', h⟩) hf)
def gNil : TGs := fun vs σ H Q => vs = [] ∧ Q σ H
def gCons (t : TG) (u : TGs) : TGs := fun vs σ H Q => ∃ v r, vs = v :: r ∧ t v σ H fun σ' H' => u r σ' H' Q
theorem pgs_nil : PGs X [] gNil := by
  intro pins s σ H vs us Q I r h
  obtain ⟨e, h⟩ := h
  subst e
  cases r
  exact assignInOrder_nil ⟨σ, H, I, h⟩
theorem pgs_cons {e : Expr} {es : List Expr} {t : TG} {u : TGs} (h1 : PG X e t) (h2 : PGs X es u)
    (hs : (assignEach (e :: es) X.env).map (·.2) = assign e X.env :: (assignEach es X.env).map (·.2) := by rfl) : PGs X (e :: es) (gCons t u) := by
  intro pins s σ H vs us Q I r h
  obtain ⟨v, vr, e1, h⟩ := h
  subst e1
  cases r with
  | cons r rr =>
    rw [hs]
    refine assignInOrder_cons (thn (h1 pins s σ H _ _ _ I r h) fun _ s1 ⟨σ1, H1, I1, q1⟩ => ?_)
    exact h2 pins s1 σ1 H1 _ _ Q I1 rr q1
def gTup (K : PySem.W.Frag) (n : Nat) (t : TGs) : TG := fun v σ H Q => ∃ a xs, v = .ref a ∧ SqT K H a xs ∧ xs.length = n ∧ t xs σ H Q
theorem pg_tup {es : List Expr} {k : Nat} {t : TGs} {n : Nat} (hc : X.calm = true) (h : PGs X es t)
    (hn : (assignEach es X.env).length = n := by rfl) (hst : (assignEach es X.env).findIdx? (·.1) = none := by rfl) : PG X (.Tuple es k pos) (gTup X.K n t) := by
  intro pins s σ H v u Q I r hw
  obtain ⟨a, xs, e1, hq, hl, hw⟩ := hw
  subst e1
  cases r
  obtain ⟨its, rv, ht, hz⟩ := I.tuple hq
  refine assign_Tuple_tuple (I.ok.hd hc) ht (by simp [hn, ← hl, rv.length]) hst fun h' hx => ?_
  have I1 : Inv X pins σ H { s with heap := h' } := I.kept (t' := s.toks) fun b o e => hx b o (Nat.ne_of_lt (Heap.lt_size e)) e
  exact h pins _ σ H xs _ Q I1 (by simpa using rv) hw
def gSub (to ti : TE) (t : TSet) : TG := fun v σ H Q => to σ H fun o H1 => ti σ H1 fun i H2 => t o i v H2 fun H3 => Q σ H3
theorem pg_sub {o i : Expr} {to ti : TE} {t : TSet} (ho : PE X o to) (hi : PE X i ti) (hs : PSet X t)
    (ha : ∀ v, assign (.Subscript o i pos) X.env v = (do
      let ov ← holding [v] (eval o X.env)
      let iv ← holding [v, ov] (eval i X.env)
      standAt pos
      holding [v, ov, iv] (setItem ov iv v)
      release [v, ov, iv] []) := by intro _; rfl) : PG X (.Subscript o i pos) (gSub to ti t) := by
  intro pins s σ H v u Q I r h
  rw [ha]
  refine wpAny_bind (wpAny_holding (thn (ho pins s σ H _ I h) fun ov s1 ⟨x, H1, I1, r1, q1⟩ => ?_))
  refine wpAny_bind (wpAny_holding (thn (hi pins s1 σ H1 _ I1 q1) fun iv s2 ⟨y, H2, I2, r2, q2⟩ => ?_))
  refine wpAny_bind (wpAny_standAt (wpAny_bind (wpAny_holding (thn (hs pins s2 σ H2 x y v ov iv u _ I2 r1 r2 r q2) fun _ s3 ⟨H3, I3, q3⟩ => ?_))))
  exact wpAny_release ⟨σ, H3, I3, q3⟩
def tAsg (te : TE) (g : TG) : TS := fun D σ H => te σ H fun x H1 => g x σ H1 D.nx
theorem ps_asg {tg e : Expr} {te : TE} {g : TG} (he : PE X e te) (hg : PG X tg g) (hs : swapsWithSole [tg] e pos.line X.env = pure false := by rfl) (hw : swappedStores [tg] e X.env = pure none := by rfl)
    (h1 : (assignEach [tg] X.env).map (·.2) = [assign tg X.env] := by rfl) : PS X (.Assign [tg] e pos) (tAsg te g) := by
  intro pins s σ H D I h
  refine wpAny_Assign_stores (thn (he pins s σ H _ I h) fun v s1 ⟨x, H1, I1, r1, q1⟩ => ?_) hs hw
  rw [h1]
  exact thn (hg pins s1 σ H1 x v _ I1 r1 q1) fun _ s2 q => q
theorem ps_set {i : Nat} {x : Str} {e : Expr} {te : TE} {pos' : Pos} (hN : X.N.Nodup) (hi : X.N[i]? = some x) (hx : Loc X.env.scope x) (he : PE X e te) (hs : swapsWith e (some (.Name x pos')) pos.line X.env = pure false := by rfl) (hf : X.fn x = true ∨ X.env.scope.names.lookup x = some .local := by first | exact .inl rfl | exact .inr rfl | assumption) :
    PS X (.Assign [.Name x pos'] e pos) (tAsg te (gName i)) := by
  intro pins s σ H D I h
  refine wpAny_Assign_Name (thn (he pins s σ H _ I h) fun v s1 ⟨y, H1, I1, r1, q1⟩ => ?_) hs
  exact store_ok I1 hN hi hx r1 (fun s2 I2 => ⟨_, H1, I2, q1⟩) hf
end
section
variable {X : Cx} {pos : Pos}
end
structure It where
  go : Nat → Hp → Prop
  yld : Nat → Hp → V → Hp → Prop
  stop : Nat → Hp → Prop
def FpOk (X : Cx) (pins : List (Addr × Obj)) (H : Hp) (b : Addr) : Prop :=
  H b = none ∧ b ≠ X.env.locals ∧ b ∉ X.fs ∧ (b ∈ X.ex ∨ X.s₀.heap.objs.size ≤ b) ∧ (∀ x c, X.env.cells.lookup x = some c → c ≠ b) ∧ ∀ p ∈ X.pn ++ pins, p.1 ≠ b
theorem Inv.fpOk {X : Cx} {pins : List (Addr × Obj)} {σ : St} {H H' : Hp} {s : Shared} {b : Addr} (I : Inv X pins σ H s) (hb : s.heap.objs.size ≤ b) (hn : H' b = none) : FpOk X pins H' b := by
  refine ⟨hn, Nat.ne_of_gt (Nat.lt_of_lt_of_le I.lt hb), I.nofs hb, .inr (Nat.le_trans I.sz hb), fun x c e z => ?_, fun p hp z => ?_⟩
  · obtain ⟨v, q⟩ := I.cell x c e
    exact absurd (Nat.lt_of_lt_of_le q.lt (by rw [z]; exact hb)) (Nat.lt_irrefl _)
  · exact absurd (Nat.lt_of_lt_of_le (Heap.lt_size (I.pin p hp).1) (by rw [z]; exact hb)) (Nat.lt_irrefl _)
structure Turn (P : Program) (w : World) (K : PySem.W.Frag) (tg : Expr) (J : It) (fp : List Addr) (it : Addr) (tn : Nat → Heap → Prop) : Prop where
  mem : it ∈ fp
  obj : ∀ i h, tn i h → ∀ b ∈ fp, ∃ o, h.get? b = some o ∧ ∀ v, o.data ≠ .cell v
  keep : ∀ i h h', tn i h → (∀ b ∈ fp, ∀ o, h.get? b = some o → h'.get? b = some o) → tn i h'
  item : ∀ (X : Cx), X.prog = P → X.w = w → X.K = K → X.calm = true → ∀ (i : Nat) (pins : List (Addr × Obj)) (s : Shared) (σ : St) (H : Hp) (E : Value → Shared → Prop), Inv X pins σ H s → (∀ b ∈ fp, FpOk X pins H b) → tn i s.heap → J.go i H →
    wpAny (model P w) X.A (pyNext (.ref it)) (fun r s1 => ∃ u, r = some u ∧
      wpAny (model P w) X.A (letOwnedTupleGo tg (.ref it) u) (fun _ s2 => ∃ x H', Inv X pins σ H' s2 ∧ RelV x u ∧ J.yld i H x H' ∧ tn (i + 1) s2.heap ∧ ∀ b ∈ fp, H' b = none) E s1) E s
  done : ∀ (X : Cx), X.prog = P → X.w = w → X.K = K → X.calm = true → ∀ (i : Nat) (pins : List (Addr × Obj)) (s : Shared) (σ : St) (H : Hp) (E : Value → Shared → Prop), Inv X pins σ H s → (∀ b ∈ fp, FpOk X pins H b) → tn i s.heap → J.stop i H →
    wpAny (model P w) X.A (pyNext (.ref it)) (fun r s1 => r = none ∧ Inv X pins σ H s1) E s
  self : ∀ (A : Around) (i : Nat) (s : Shared) (Q : Value → Shared → Prop) (E : Value → Shared → Prop), tn i s.heap → Q (.ref it) s → wpAny (model P w) A (pyIter (.ref it)) Q E s
abbrev TI := St → Hp → (It → Hp → Prop) → Prop
def PIE (X : Cx) (pins : List (Addr × Obj)) (σ : St) (tg : Expr) (R : It → Hp → Prop) (itv : Value) (s2 : Shared) : Prop :=
  ∃ (it : Addr) (fp : List Addr) (tn : Nat → Heap → Prop) (J : It) (H' : Hp), itv = .ref it ∧ Inv X pins σ H' s2 ∧ Turn X.prog X.w X.K tg J fp it tn ∧ tn 0 s2.heap ∧ (∀ b ∈ fp, FpOk X pins H' b) ∧ R J H'
def PI (X : Cx) (tg iter : Expr) (wi : TI) : Prop :=
  ∀ (pins : List (Addr × Obj)) (s : Shared) (σ : St) (H : Hp) (R : It → Hp → Prop), Inv X pins σ H s → wi σ H R →
    wpAny (model X.prog X.w) X.A (eval iter X.env) (fun v s1 => wpAny (model X.prog X.w) X.A (pyIter v) (PIE X pins σ tg R) X.xe s1) X.xe s
theorem go_of {M : Model} {A : Around} {E : Value → Shared → Prop} {s : Shared} {tg : Expr} {it : Addr} {u : Value} {o : Obj} {n : String} {vs : Array Value} {Q : Unit → Shared → Prop} (ho : s.heap.get? it = some o) (hc : o.cls = .type n) (hd : o.data = .fields vs)
    (hn : ["enumerate", "zip", "dict_itemiterator", "dict_reverseitemiterator", "odict_iterator", "itertools.zip_longest", "itertools.pairwise"].contains n = false) (hQ : Q () s) : wpAny M A (letOwnedTupleGo tg (.ref it) u) Q E s := by
  unfold letOwnedTupleGo
  cases tg <;> first
    | exact wpAny_pure hQ
    | (cases u <;> first
        | exact wpAny_pure hQ
        | (refine wpAny_bind (wpAny_load ho ?_)
           rw [hc, hd]
           show wpAny M A (if (["enumerate", "zip", "dict_itemiterator", "dict_reverseitemiterator", "odict_iterator", "itertools.zip_longest", "itertools.pairwise"].contains n && vs[0]? == some (rawInt _)) = true then _ else _) Q E s
           rw [if_neg (by intro h; rw [hn, Bool.false_and] at h; cases h)]
           exact wpAny_pure hQ))
def Itl (K : PySem.W.Frag) (a : Addr) : It :=
  ⟨fun i H => ∃ xs x, SqL K H a xs ∧ xs[i]? = some x, fun i H x H' => H' = H ∧ ∀ xs, SqL K H a xs → xs[i]? = some x, fun i H => ∃ xs, SqL K H a xs ∧ xs.length ≤ i⟩
def Itt (K : PySem.W.Frag) (a : Addr) : It :=
  ⟨fun i H => ∃ xs x, SqT K H a xs ∧ xs[i]? = some x, fun i H x H' => H' = H ∧ ∀ xs, SqT K H a xs → xs[i]? = some x, fun i H => ∃ xs, SqT K H a xs ∧ xs.length ≤ i⟩
theorem turn_list {P : Program} {w : World} {K : PySem.W.Frag} {tg : Expr} (a it : Addr) : Turn P w K tg (Itl K a) [it] it (fun i h => h.IsListIter it a i) where
  mem := by simp
  obj := fun i h st b hb => by
    have e : b = it := by simpa using hb
    subst e
    obtain ⟨o, e, c, d⟩ := st
    exact ⟨o, e, fun v z => by rw [d] at z; cases z⟩
  keep := fun i h h' st k => st.at fun o e => k it (by simp) o e
  item := by
    intro X hP hw hK hc i pins s σ H E I hf st hg
    subst hP hw hK
    obtain ⟨xs, x, hq, hx⟩ := hg
    obtain ⟨its, rv, p, hz⟩ := I.list hq
    obtain ⟨u, hu, ru⟩ := rv.get hx
    obtain ⟨f0, f1, f2, f3, f4, f5⟩ := hf it (by simp)
    refine wpAny_pyNext_list_item st p.isList (x := u) (by simpa using hu) fun h' st' sb => ?_
    have I1 : Inv X pins σ H { s with heap := h' } := I.turned (t' := s.toks) (fun b o hb e => (sb.2 b hb).trans e) f0 f1 f3 f4 f5
    obtain ⟨o, e, c, d⟩ := id st'
    exact ⟨u, rfl, go_of (s := { s with heap := h' }) e c d (by decide) ⟨x, H, I1, ru, ⟨rfl, fun ys hy => by rw [I.list_inj hy hq]; exact hx⟩, st', fun b hb => (hf b hb).1⟩⟩
  done := by
    intro X hP hw hK hc i pins s σ H E I hf st hg
    subst hP hw hK
    obtain ⟨xs, hq, hx⟩ := hg
    obtain ⟨its, rv, p, hz⟩ := I.list hq
    obtain ⟨f0, f1, f2, f3, f4, f5⟩ := hf it (by simp)
    have hl := rv.length
    exact wpAny_pyNext_list_end (I.ok.hd hc) st p.isList (by simp; omega) fun h' eb => ⟨rfl, I.turned (t' := s.toks) (fun b o hb e => eb b o hb e) f0 f1 f3 f4 f5⟩
  self := fun _ _ _ _ _ st h => wpAny_pyIter_listiter st h
theorem turn_tuple {P : Program} {w : World} {K : PySem.W.Frag} {tg : Expr} (a it : Addr) : Turn P w K tg (Itt K a) [it] it (fun i h => h.IsTupleIter it a i) where
  mem := by simp
  obj := fun i h st b hb => by
    have e : b = it := by simpa using hb
    subst e
    obtain ⟨o, e, c, d⟩ := st
    exact ⟨o, e, fun v z => by rw [d] at z; cases z⟩
  keep := fun i h h' st k => st.at fun o e => k it (by simp) o e
  item := by
    intro X hP hw hK hc i pins s σ H E I hf st hg
    subst hP hw hK
    obtain ⟨xs, x, hq, hx⟩ := hg
    obtain ⟨its, rv, p, hz⟩ := I.tuple hq
    obtain ⟨u, hu, ru⟩ := rv.get hx
    obtain ⟨f0, f1, f2, f3, f4, f5⟩ := hf it (by simp)
    refine wpAny_pyNext_tuple_item st (show s.heap.IsTuple a its.toArray from p) (x := u) (by simpa using hu) fun h' st' sb => ?_
    have I1 : Inv X pins σ H { s with heap := h' } := I.turned (t' := s.toks) (fun b o hb e => (sb.2 b hb).trans e) f0 f1 f3 f4 f5
    obtain ⟨o, e, c, d⟩ := id st'
    exact ⟨u, rfl, go_of (s := { s with heap := h' }) e c d (by decide) ⟨x, H, I1, ru, ⟨rfl, fun ys hy => by rw [I.tuple_inj hy hq]; exact hx⟩, st', fun b hb => (hf b hb).1⟩⟩
  done := by
    intro X hP hw hK hc i pins s σ H E I hf st hg
    subst hP hw hK
    obtain ⟨xs, hq, hx⟩ := hg
    obtain ⟨its, rv, p, hz⟩ := I.tuple hq
    obtain ⟨f0, f1, f2, f3, f4, f5⟩ := hf it (by simp)
    have hl := rv.length
    exact wpAny_pyNext_tuple_end (I.ok.hd hc) st (show s.heap.IsTuple a its.toArray from p) (by simp; omega) fun h' eb => ⟨rfl, I.turned (t' := s.toks) (fun b o hb e => eb b o hb e) f0 f1 f3 f4 f5⟩
  self := fun _ _ _ _ _ st h => wpAny_pyIter_tupleiter st h
end L2
namespace L2
open PySem PySem.Spec PyProof.Rows
section
variable {X : Cx} {tg : Expr}
def tFor (wi : TI) (g : TG) (tb : TS) : TS := fun D σ H => wi σ H fun J H1 => ∃ W : Nat → Nat → St → Hp → Prop, (∃ m, W 0 m σ H1) ∧ ∀ i m σ H, W i m σ H →
  (J.stop i H ∧ D.nx σ H) ∨ (J.go i H ∧ ∃ N : St → Hp → Prop, (∀ σ' H', N σ' H' → ∃ m', m' < m ∧ W (i + 1) m' σ' H') ∧ ∀ x H', J.yld i H x H' → g x σ H' fun σ2 H2 => tb { D with nx := N, ct := N, bk := D.nx } σ2 H2)
def pinsAt (fp : List Addr) (h : Heap) : List (Addr × Obj) := fp.filterMap fun b => (h.get? b).map fun o => (b, o)
theorem mem_pinsAt {fp : List Addr} {h : Heap} {b : Addr} {o : Obj} (hb : b ∈ fp) (e : h.get? b = some o) : (b, o) ∈ pinsAt fp h := List.mem_filterMap.mpr ⟨b, hb, by rw [e]; rfl⟩
theorem of_pinsAt {fp : List Addr} {h : Heap} {p : Addr × Obj} (hp : p ∈ pinsAt fp h) : p.1 ∈ fp ∧ h.get? p.1 = some p.2 := by
  obtain ⟨b, hb, e⟩ := List.mem_filterMap.mp hp
  cases q : h.get? b with
  | none => rw [q] at e; cases e
  | some o =>
    rw [q] at e
    have e' : (b, o) = p := Option.some.inj e
    subst e'
    exact ⟨hb, q⟩
theorem Inv.pinned {pins : List (Addr × Obj)} {σ : St} {H : Hp} {s : Shared} {fp : List Addr} (I : Inv X pins σ H s) (hf : ∀ b ∈ fp, FpOk X pins H b) (ho : ∀ b ∈ fp, ∃ o, s.heap.get? b = some o ∧ ∀ v, o.data ≠ .cell v) : Inv X (pins ++ pinsAt fp s.heap) σ H s :=
  I.pins_of fun p hp => (List.mem_append.mp hp).elim (fun z => I.pin p (List.mem_append_right _ z)) fun z => by
    obtain ⟨hb, e⟩ := of_pinsAt z
    obtain ⟨f0, f1, f2, _⟩ := hf p.1 hb
    obtain ⟨o, e', d⟩ := ho p.1 hb
    rw [e] at e'; cases e'
    exact ⟨e, f0, f1, f2, d⟩
theorem Inv.unpinned {pins pl : List (Addr × Obj)} {σ : St} {H : Hp} {s : Shared} (I : Inv X (pins ++ pl) σ H s) : Inv X pins σ H s := I.pins_of fun p hp => I.pin p (List.mem_append_right _ (List.mem_append_left _ hp))
theorem ps_for {iter : Expr} {body : List Stmt} {wi : TI} {g : TG} {tb : TS} {pos : Pos} (hp : PassesOwn (model X.prog X.w) X.A X.env X.xe) (hc : X.calm = true) (hi : PI X tg iter wi) (hg : PG X tg g) (hb : PSs X body tb)
    (hs : ∀ x, foldedSetIterable iter X.env x = pure x := by intro _; rfl) : PS X (.For tg iter body [] pos) (tFor wi g tb) := by
  intro pins s σ H D I h
  refine wpAny_For (thn (hi pins s σ H _ I h) fun v s1 h1 => thn h1 fun itv s2 h2 => ?_) hs
  obtain ⟨it, fp, tn, J, H2, e, I2, T, st2, f2, W, ⟨m0, w0⟩, turn⟩ := h2
  subst e
  have stat : ∀ {H' : Hp}, (∀ b ∈ fp, H' b = none) → ∀ b ∈ fp, FpOk X pins H' b := fun hn b hb => ⟨hn b hb, (f2 b hb).2⟩
  refine codeAny_forLoop_any (fun n s' => ∃ i σ' H', Inv X pins σ' H' s' ∧ tn i s'.heap ∧ (∀ b ∈ fp, H' b = none) ∧ W i n σ' H') ?_ m0 ⟨0, σ, H2, I2, st2, fun b hb => (f2 b hb).1, w0⟩
  rintro n s3 ⟨i, σ3, H3, I3, st3, fr3, w3⟩
  rcases turn i n σ3 H3 w3 with ⟨stop, qn⟩ | ⟨go, N, hN, step⟩
  · refine wpAny_passesOwn hp (thn (T.done X rfl rfl rfl hc i pins s3 σ3 H3 X.xe I3 (stat fr3) st3 stop) fun r s4 ⟨hr, I4⟩ => ?_)
    subst hr
    exact wpAny_execs_nil ⟨σ3, H3, I4, qn⟩
  · refine wpAny_passesOwn hp (thn (T.item X rfl rfl rfl hc i pins s3 σ3 H3 X.xe I3 (stat fr3) st3 go) fun r s4 ⟨u, hr, h4⟩ => ?_)
    subst hr
    refine wpAny_passesOwn hp (thn h4 fun _ s5 ⟨x, H5, I5, r5, y5, st5, fr5⟩ => ?_)
    have I5' := I5.pinned (stat fr5) (T.obj _ _ st5)
    refine wpAny_passesOwn hp (thn (hg _ s5 σ3 H5 x u _ I5' r5 (step x H5 y5)) fun _ s6 ⟨σ6, H6, I6, q6⟩ => ?_)
    refine wpAny_passesOwn hp (thn (hb _ s6 σ6 H6 _ I6 q6) fun f s7 q7 => ?_)
    have again : ∀ {σ7 : St} {H7 : Hp}, Inv X (pins ++ pinsAt fp s5.heap) σ7 H7 s7 → N σ7 H7 → ∃ m, m < n ∧ ∃ i σ' H', Inv X pins σ' H' s7 ∧ tn i s7.heap ∧ (∀ b ∈ fp, H' b = none) ∧ W i m σ' H' := fun {σ7 H7} I7 n7 => by
      obtain ⟨m', hm, w7⟩ := hN σ7 H7 n7
      refine ⟨m', hm, i + 1, σ7, H7, I7.unpinned, T.keep _ _ _ st5 fun b hb o e => (I7.pin (b, o) (List.mem_append_right _ (List.mem_append_right _ (mem_pinsAt hb e)))).1, fun b hb => ?_, w7⟩
      obtain ⟨o, e, d⟩ := T.obj _ _ st5 b hb
      exact (I7.pin (b, o) (List.mem_append_right _ (List.mem_append_right _ (mem_pinsAt hb e)))).2.1
    cases f with
    | next => obtain ⟨σ7, H7, I7, n7⟩ := q7; exact again I7 n7
    | cont => obtain ⟨σ7, H7, I7, n7⟩ := q7; exact again I7 n7
    | brk => obtain ⟨σ7, H7, I7, q7⟩ := q7; exact ⟨σ7, H7, I7.unpinned, q7⟩
    | ret v => obtain ⟨x7, σ7, H7, I7, r7, q7⟩ := q7; exact ⟨x7, σ7, H7, I7.unpinned, r7, q7⟩
end
end L2
namespace L2
open PySem PySem.Spec PyProof.Rows
abbrev R2 := V → V → Hp → VK → Prop
def OpR (X : Cx) (f : Value → Value → Sem Value) (r : R2) : Prop :=
  ∀ (pins : List (Addr × Obj)) (s : Shared) (σ : St) (H : Hp) (x y : V) (v u : Value) (Q : VK), Inv X pins σ H s → RelV x v → RelV y u → r x y H Q →
    wpAny (model X.prog X.w) X.A (f v u) (EP X pins σ Q) X.xe s
def UnR (X : Cx) (f : Value → Sem Value) (r : V → Hp → VK → Prop) : Prop :=
  ∀ (pins : List (Addr × Obj)) (s : Shared) (σ : St) (H : Hp) (x : V) (v : Value) (Q : VK), Inv X pins σ H s → RelV x v → r x H Q →
    wpAny (model X.prog X.w) X.A (f v) (EP X pins σ Q) X.xe s
def CallR (X : Cx) (f : Value) (r : List V → Hp → VK → Prop) : Prop :=
  ∀ (pins : List (Addr × Obj)) (s : Shared) (σ : St) (H : Hp) (xs : List V) (us : List Value) (Q : VK), Inv X pins σ H s → Vals xs us → r xs H Q →
    wpAny (model X.prog X.w) X.A (call f us) (EP X pins σ Q) X.xe s
def tOp (r : R2) (ta tb : TE) : TE := fun σ H Q => ta σ H fun x H1 => tb σ H1 fun y H2 => r x y H2 Q
def tUn (r : V → Hp → VK → Prop) (ta : TE) : TE := fun σ H Q => ta σ H fun x H1 => r x H1 Q
def rI (C : Int → Int → Prop) (g : Int → Int → V) : R2 := fun x y H Q => ∃ i j, x = .int i ∧ y = .int j ∧ C i j ∧ Q (g i j) H
def rI0 (g : Int → Int → V) : R2 := fun x y H Q => ∃ i j, x = .int i ∧ y = .int j ∧ Q (g i j) H
def rU (g : Int → V) : V → Hp → VK → Prop := fun x H Q => ∃ i, x = .int i ∧ Q (g i) H
section
variable {X : Cx} {a b c : Expr} {ta tb tc : TE} {pos : Pos}
theorem binT (ha : PE X a ta) (hb : PE X b tb) {pins : List (Addr × Obj)} {s : Shared} {σ : St} {H : Hp} {R : V → V → Hp → Prop} (I : Inv X pins σ H s)
    (h : ta σ H fun x H1 => tb σ H1 fun y H2 => R x y H2) {Q : Value → Shared → Prop} {f : Value → Value → Sem Value}
    (hf : ∀ v u s2 x y H2, Inv X pins σ H2 s2 → RelV x v → RelV y u → R x y H2 → wpAny (model X.prog X.w) X.A (f v u) Q X.xe s2) :
    wpAny (model X.prog X.w) X.A (eval a X.env) (fun v s₁ => wpAny (model X.prog X.w) X.A (eval b X.env) (fun u s₂ => wpAny (model X.prog X.w) X.A (f v u) Q X.xe s₂) X.xe s₁) X.xe s := by
  refine thn (ha pins s σ H _ I h) fun v s1 ⟨x, H1, I1, r1, q1⟩ => ?_
  refine thn (hb pins s1 σ H1 _ I1 q1) fun u s2 ⟨y, H2, I2, r2, q2⟩ => ?_
  exact hf v u s2 x y H2 I2 r1 r2 q2
theorem pe_op {op : Operator} {r : R2} (ho : OpR X (binaryOp op) r) (ha : PE X a ta) (hb : PE X b tb) : PE X (.BinOp a op b pos) (tOp r ta tb) := by
  intro pins s σ H Q I h
  exact wpAny_BinOp (binT ha hb I h fun v u s2 x y H2 I2 rx ry q => ho pins s2 σ H2 x y v u Q I2 rx ry q)
theorem pe_un {op : UnaryOp} {r : V → Hp → VK → Prop} (ho : UnR X (unaryOp op) r) (ha : PE X a ta) : PE X (.UnaryOp op a pos) (tUn r ta) := by
  intro pins s σ H Q I h
  exact UnaryOp_ (thn (ha pins s σ H _ I h) fun v s1 ⟨x, H1, I1, r1, q1⟩ => ho pins s1 σ H1 x v Q I1 r1 q1)
theorem opI {f : Value → Value → Sem Value} {C : Int → Int → Prop} {g : Int → Int → Int}
    (rule : ∀ (i j : Int) (t u : Tok) (s : Shared) (Q : Value → Shared → Prop) (E : Value → Shared → Prop), C i j → Q (.int (g i j) s.toks) { s with toks := s.toks + 1 } → wpAny (model X.prog X.w) X.A (f (.int i t) (.int j u)) Q E s) :
    OpR X f (rI C fun i j => .int (g i j)) := by
  intro pins s σ H x y v u Q I rx ry h
  obtain ⟨i, j, rfl, rfl, hc, q⟩ := h
  obtain ⟨t, rfl⟩ := rx
  obtain ⟨t', rfl⟩ := ry
  exact rule i j t t' s _ _ hc ⟨.int (g i j), H, I.tok _, ⟨_, rfl⟩, q⟩
theorem opI0 {f : Value → Value → Sem Value} {g : Int → Int → Int}
    (rule : ∀ (i j : Int) (t u : Tok) (s : Shared) (Q : Value → Shared → Prop) (E : Value → Shared → Prop), Q (.int (g i j) s.toks) { s with toks := s.toks + 1 } → wpAny (model X.prog X.w) X.A (f (.int i t) (.int j u)) Q E s) :
    OpR X f (rI0 fun i j => .int (g i j)) := by
  intro pins s σ H x y v u Q I rx ry h
  obtain ⟨i, j, rfl, rfl, q⟩ := h
  obtain ⟨t, rfl⟩ := rx
  obtain ⟨t', rfl⟩ := ry
  exact rule i j t t' s _ _ ⟨.int (g i j), H, I.tok _, ⟨_, rfl⟩, q⟩
theorem opB0 {f : Value → Value → Sem Value} {g : Int → Int → Bool}
    (rule : ∀ (i j : Int) (t u : Tok) (s : Shared) (Q : Value → Shared → Prop) (E : Value → Shared → Prop), Q (.bool (g i j)) s → wpAny (model X.prog X.w) X.A (f (.int i t) (.int j u)) Q E s) :
    OpR X f (rI0 fun i j => .bl (g i j)) := by
  intro pins s σ H x y v u Q I rx ry h
  obtain ⟨i, j, rfl, rfl, q⟩ := h
  obtain ⟨t, rfl⟩ := rx
  obtain ⟨t', rfl⟩ := ry
  exact rule i j t t' s _ _ ⟨.bl (g i j), H, I, rfl, q⟩
def CDiv (i j : Int) : Prop := 0 < j ∧ j < 1073741824
def CMul (i j : Int) : Prop := (-(2 ^ 64) < i ∧ i < 2 ^ 64) ∨ (-(2 ^ 64) < j ∧ j < 2 ^ 64)
theorem CMul.ok {i j : Int} (h : CMul i j) : IntMulOk i j := by
  rcases h with ⟨h1, h2⟩ | ⟨h1, h2⟩
  · exact .of_left (intBits_le_64 h1 h2)
  · exact .of_right (intBits_le_64 h1 h2)
theorem op_add : OpR X (binaryOp .Add) (rI0 fun i j => .int (i + j)) := opI0 fun _ _ _ _ _ _ _ q => add_int q
theorem op_mul : OpR X (binaryOp .Mult) (rI CMul fun i j => .int (i * j)) := opI fun _ _ _ _ _ _ _ hc q => mul_int q hc.ok
theorem op_fdiv : OpR X (binaryOp .FloorDiv) (rI CDiv fun i j => .int (i / j)) := opI fun i j _ _ _ _ _ hc q => by
  have h1 : (0 : Int) < j := hc.1
  have h2 : j < 1073741824 := hc.2
  exact floordiv_int (by omega) (by rw [Int.fdiv_eq_ediv_of_nonneg i (by omega)]; exact q) (.inl (PyProof.noPylong_small (by omega)))
theorem op_mod : OpR X (binaryOp .Mod) (rI (fun _ j => 0 < j) fun i j => .int (i % j)) := opI fun i j _ _ _ _ _ hc q => by
  have h1 : (0 : Int) < j := hc
  exact mod_int' (by omega) (by rw [Int.fmod_eq_emod_of_nonneg i (by omega)]; exact q)
theorem unI {f : Value → Sem Value} {g : Int → Int}
    (rule : ∀ (i : Int) (t : Tok) (s : Shared) (Q : Value → Shared → Prop) (E : Value → Shared → Prop), Q (.int (g i) s.toks) { s with toks := s.toks + 1 } → wpAny (model X.prog X.w) X.A (f (.int i t)) Q E s) :
    UnR X f (rU fun i => .int (g i)) := by
  intro pins s σ H x v Q I rx h
  obtain ⟨i, rfl, q⟩ := h
  obtain ⟨t, rfl⟩ := rx
  exact rule i t s _ _ ⟨.int (g i), H, I.tok _, ⟨_, rfl⟩, q⟩
theorem un_neg : UnR X (unaryOp .USub) (rU fun i => .int (-i)) := unI fun _ _ _ _ _ q => neg_int q
end
def scal : V → V → Bool
  | .non, .non => true | .non, .int _ => true | .int _, .non => true | .non, .bl _ => true | .bl _, .non => true | .non, .str _ => true | .str _, .non => true
  | .int _, .int _ => true | .bl _, .bl _ => true | .str _, .str _ => true | .byt _, .byt _ => true
  | .int _, .str _ => true | .str _, .int _ => true | .bl _, .str _ => true | .str _, .bl _ => true
  | _, _ => false
def rEq : R2 := fun x y H Q => scal x y = true ∧ Q (.bl (decide (x = y))) H
def rNe : R2 := fun x y H Q => scal x y = true ∧ Q (.bl (!decide (x = y))) H
theorem dec_int {i j : Int} : decide (V.int i = V.int j) = (i == j) := by
  rw [Bool.eq_iff_iff]
  simp
theorem dec_bl {i j : Bool} : decide (V.bl i = V.bl j) = (i == j) := by
  rw [Bool.eq_iff_iff]
  simp
theorem dec_str {i j : Str} : decide (V.str i = V.str j) = (i == j) := by
  rw [Bool.eq_iff_iff]
  simp
theorem dec_byt {i j : Array UInt8} : decide (V.byt i = V.byt j) = (i.toList == j.toList) := by
  rw [Bool.eq_iff_iff]
  cases i
  cases j
  simp
section
variable {X : Cx} {a b c : Expr} {ta tb tc : TE} {pos : Pos}
theorem fin_bl {pins : List (Addr × Obj)} {σ : St} {H : Hp} {s : Shared} {Q : VK} {k k' : Bool} (I : Inv X pins σ H s) (q : Q (.bl k) H) (e : k = k') : EP X pins σ Q (.bool k') s := by
  subst e
  exact ⟨.bl k, H, I, rfl, q⟩
theorem op_eq : OpR X (compareOp .Eq) rEq := by
  intro pins s σ H x y v u Q I rx ry h
  obtain ⟨hs, q⟩ := h
  cases x with
  | non =>
    cases rx
    cases y with
    | non => cases ry; exact PySem.EqNone.eq_none_none (fin_bl I q (by simp))
    | bl j => cases ry; exact PySem.EqNone.eq_none_bool (fin_bl I q (by simp))
    | int j => obtain ⟨t', rfl⟩ := ry; exact PySem.EqNone.eq_none_int (fin_bl I q (by simp))
    | str j => obtain ⟨t', rfl⟩ := ry; exact PySem.EqNone.eq_none_str (fin_bl I q (by simp))
    | _ => exact absurd (show false = true from hs) Bool.false_ne_true
  | bl i =>
    cases rx
    cases y with
    | non => cases ry; exact PySem.EqNone.eq_bool_none (fin_bl I q (by simp))
    | bl j => cases ry; exact eq_bool (fin_bl I q dec_bl)
    | str j => obtain ⟨t', rfl⟩ := ry; exact PySem.EqMixed.eq_bool_str (fin_bl I q (by simp))
    | _ => exact absurd (show false = true from hs) Bool.false_ne_true
  | int i =>
    obtain ⟨t, rfl⟩ := rx
    cases y with
    | non => cases ry; exact PySem.EqNone.eq_int_none (fin_bl I q (by simp))
    | int j => obtain ⟨t', rfl⟩ := ry; exact eq_int (fin_bl I q dec_int)
    | str j => obtain ⟨t', rfl⟩ := ry; exact PySem.EqMixed.eq_int_str (fin_bl I q (by simp))
    | _ => exact absurd (show false = true from hs) Bool.false_ne_true
  | str i =>
    obtain ⟨t, rfl⟩ := rx
    cases y with
    | non => cases ry; exact PySem.EqNone.eq_str_none (fin_bl I q (by simp))
    | bl j => cases ry; exact PySem.EqMixed.eq_str_bool (fin_bl I q (by simp))
    | int j => obtain ⟨t', rfl⟩ := ry; exact PySem.EqMixed.eq_str_int (fin_bl I q (by simp))
    | str j => obtain ⟨t', rfl⟩ := ry; exact eq_str (fin_bl I q dec_str)
    | _ => exact absurd (show false = true from hs) Bool.false_ne_true
  | byt i =>
    obtain ⟨t, rfl⟩ := rx
    cases y with
    | byt j => obtain ⟨t', rfl⟩ := ry; exact PySem.W.eq_bytes (fin_bl I q dec_byt)
    | _ => exact absurd (show false = true from hs) Bool.false_ne_true
  | _ => cases y <;> exact absurd (show false = true from hs) Bool.false_ne_true
theorem op_ne : OpR X (compareOp .NotEq) rNe := by
  intro pins s σ H x y v u Q I rx ry h
  obtain ⟨hs, q⟩ := h
  cases x with
  | non =>
    cases rx
    cases y with
    | non => cases ry; exact PySem.EqNone.ne_none_none (fin_bl I q (by simp))
    | bl j => cases ry; exact PySem.EqNone.ne_none_bool (fin_bl I q (by simp))
    | int j => obtain ⟨t', rfl⟩ := ry; exact PySem.EqNone.ne_none_int (fin_bl I q (by simp))
    | str j => obtain ⟨t', rfl⟩ := ry; exact PySem.EqNone.ne_none_str (fin_bl I q (by simp))
    | _ => exact absurd (show false = true from hs) Bool.false_ne_true
  | bl i =>
    cases rx
    cases y with
    | non => cases ry; exact PySem.EqNone.ne_bool_none (fin_bl I q (by simp))
    | bl j => cases ry; exact ne_bool (fin_bl I q (congrArg not dec_bl))
    | str j => obtain ⟨t', rfl⟩ := ry; exact PySem.EqMixed.ne_bool_str (fin_bl I q (by simp))
    | _ => exact absurd (show false = true from hs) Bool.false_ne_true
  | int i =>
    obtain ⟨t, rfl⟩ := rx
    cases y with
    | non => cases ry; exact PySem.EqNone.ne_int_none (fin_bl I q (by simp))
    | int j => obtain ⟨t', rfl⟩ := ry; exact ne_int (fin_bl I q (congrArg not dec_int))
    | str j => obtain ⟨t', rfl⟩ := ry; exact PySem.EqMixed.ne_int_str (fin_bl I q (by simp))
    | _ => exact absurd (show false = true from hs) Bool.false_ne_true
  | str i =>
    obtain ⟨t, rfl⟩ := rx
    cases y with
    | non => cases ry; exact PySem.EqNone.ne_str_none (fin_bl I q (by simp))
    | bl j => cases ry; exact PySem.EqMixed.ne_str_bool (fin_bl I q (by simp))
    | int j => obtain ⟨t', rfl⟩ := ry; exact PySem.EqMixed.ne_str_int (fin_bl I q (by simp))
    | str j => obtain ⟨t', rfl⟩ := ry; exact ne_str (fin_bl I q (congrArg not dec_str))
    | _ => exact absurd (show false = true from hs) Bool.false_ne_true
  | byt i =>
    obtain ⟨t, rfl⟩ := rx
    cases y with
    | byt j => obtain ⟨t', rfl⟩ := ry; exact PySem.W.ne_bytes (fin_bl I q (congrArg not dec_byt))
    | _ => exact absurd (show false = true from hs) Bool.false_ne_true
  | _ => cases y <;> exact absurd (show false = true from hs) Bool.false_ne_true
theorem op_lt : OpR X (compareOp .Lt) (rI0 fun i j => .bl (decide (i < j))) := opB0 fun _ _ _ _ _ _ _ q => lt_int q
theorem op_le : OpR X (compareOp .LtE) (rI0 fun i j => .bl (decide (i ≤ j))) := opB0 fun _ _ _ _ _ _ _ q => le_int q
theorem op_gt : OpR X (compareOp .Gt) (rI0 fun i j => .bl (decide (j < i))) := opB0 fun _ _ _ _ _ _ _ q => gt_int q
theorem op_lt_str : OpR X (compareOp .Lt) (fun x y H Q => ∃ i j, x = .str i ∧ y = .str j ∧ Q (.bl (decide (i.cps.toList < j.cps.toList))) H) := by
  intro pins s σ H x y v u Q I rx ry h
  obtain ⟨i, j, rfl, rfl, q⟩ := h
  obtain ⟨t, rfl⟩ := rx
  obtain ⟨t', rfl⟩ := ry
  exact lt_str (fin_bl I q rfl)
theorem op_in_str : OpR X (compareOp .In) (fun x y H Q => ∃ i j, x = .str i ∧ y = .str j ∧ Q (.bl (!(Builtin.Str.occurrences j i 0 j.length 1).isEmpty)) H) := by
  intro pins s σ H x y v u Q I rx ry h
  obtain ⟨i, j, rfl, rfl, q⟩ := h
  obtain ⟨t, rfl⟩ := rx
  obtain ⟨t', rfl⟩ := ry
  exact in_str (fin_bl I q rfl)
theorem op_isN : OpR X (compareOp .Is) (fun x y H Q => y = .non ∧ Q (.bl (decide (x = .non))) H) := by
  intro pins s σ H x y v u Q I rx ry h
  obtain ⟨rfl, q⟩ := h
  cases ry
  refine is_none_gen (fin_bl I q ?_)
  cases x <;> first
    | (cases rx; rfl)
    | (obtain ⟨t, rfl⟩ := rx; rfl)
theorem op_notN : OpR X (compareOp .IsNot) (fun x y H Q => y = .non ∧ Q (.bl (!decide (x = .non))) H) := by
  intro pins s σ H x y v u Q I rx ry h
  obtain ⟨rfl, q⟩ := h
  cases ry
  refine isnot_none_gen (fin_bl I q ?_)
  cases x <;> first
    | (cases rx; rfl)
    | (obtain ⟨t, rfl⟩ := rx; rfl)
theorem OpR.or {f : Value → Value → Sem Value} {r r' : R2} (h : OpR X f r) (h' : OpR X f r') : OpR X f (fun x y H Q => r x y H Q ∨ r' x y H Q) := by
  intro pins s σ H x y v u Q I rx ry q
  rcases q with q | q
  · exact h pins s σ H x y v u Q I rx ry q
  · exact h' pins s σ H x y v u Q I rx ry q
theorem nomark (b : Expr) {op : CmpOp} (h : op ≠ .In := by decide) (h2 : op ≠ .NotIn := by decide) : behindInMarks op b = false := by
  have e1 : (op == CmpOp.In) = false := by cases op <;> first | rfl | exact absurd rfl h
  have e2 : (op == CmpOp.NotIn) = false := by cases op <;> first | rfl | exact absurd rfl h2
  cases b <;> simp [behindInMarks, e1, e2]
theorem pe_cmpR {op : CmpOp} {r : R2} (ho : OpR X (compareOp op) r) (ha : PE X a ta) (hb : PE X b tb) (hm : behindInMarks op b = false) : PE X (.Compare a [op] [b] pos) (tOp r ta tb) := by
  intro pins s σ H Q I h
  exact wpAny_Compare1 (binT ha hb I h fun v u s2 x y H2 I2 rx ry q => ho pins s2 σ H2 x y v u Q I2 rx ry q) hm
def tTest (t : TE) : TT := fun σ H Q => t σ H fun x H' => ∃ k, x = .bl k ∧ Q k H'
theorem pt_cmpR {op : CmpOp} {r : R2} (ho : OpR X (compareOp op) r) (ha : PE X a ta) (hb : PE X b tb) (hm : behindInMarks op b = false) : PT X (.Compare a [op] [b] pos) (tTest (tOp r ta tb)) := by
  intro pins s σ H Q I h
  refine wpAny_isTrue_Compare1 (thn (ha pins s σ H _ I h) fun v s1 ⟨x, H1, I1, r1, q1⟩ => thn (hb pins s1 σ H1 _ I1 q1) fun u s2 ⟨y, H2, I2, r2, q2⟩ =>
    thn (ho pins s2 σ H2 x y v u _ I2 r1 r2 q2) fun c s3 ⟨z, H3, I3, r3, k, e, q3⟩ => ?_) hm
  subst e
  cases r3
  exact wpAny_truthy_bool ⟨H3, I3, q3⟩
theorem line63 : (sizeLine : Nat) < 2 ^ 63 := by rw [sizeLine_eq]; decide
theorem op_add_str : OpR X (binaryOp .Add) (fun x y H Q => ∃ i j, x = .str i ∧ y = .str j ∧ i.length + j.length ≤ sizeLine ∧ Q (.str (i ++ j)) H) := by
  intro pins s σ H x y v u Q I rx ry h
  obtain ⟨i, j, rfl, rfl, hz, q⟩ := h
  obtain ⟨t, rfl⟩ := rx
  obtain ⟨t', rfl⟩ := ry
  exact add_str (fun t' tk => ⟨.str (i ++ j), H, I.tok _, ⟨_, rfl⟩, q⟩) hz
theorem vals1 {x : V} {us : List Value} (r : Vals [x] us) : ∃ u, us = [u] ∧ RelV x u := by
  cases r with
  | cons r1 r2 => cases r2; exact ⟨_, rfl, r1⟩
theorem vals2 {x y : V} {us : List Value} (r : Vals [x, y] us) : ∃ u w', us = [u, w'] ∧ RelV x u ∧ RelV y w' := by
  cases r with
  | cons r1 r2 =>
    cases r2 with
    | cons r3 r4 => cases r4; exact ⟨_, _, rfl, r1, r3⟩
theorem call_str_int : CallR X (.type "str") (fun xs H Q => ∃ i, xs = [.int i] ∧ i.natAbs.log2 < 1920 ∧ Q (.str (toString i)) H) := by
  intro pins s σ H xs us Q I r h
  obtain ⟨i, rfl, hz, q⟩ := h
  obtain ⟨u, rfl, t, rfl⟩ := vals1 r
  exact PySem.P.str_of_int hz ⟨.str _, H, I.tok _, ⟨_, rfl⟩, q⟩
def LenV (K : PySem.W.Frag) (x : V) (H : Hp) (n : Nat) : Prop :=
  match x with
  | .str y => y.length ≤ sizeLine ∧ n = y.length
  | .byt y => y.size ≤ sizeLine ∧ n = y.size
  | .ref p => (∃ xs, SqL K H p xs ∧ n = xs.length) ∨ ∃ xs, SqT K H p xs ∧ n = xs.length
  | _ => False
theorem call_len : CallR X (.builtin "len") (fun xs H Q => ∃ x n, xs = [x] ∧ LenV X.K x H n ∧ Q (.int n) H) := by
  intro pins s σ H xs us Q I r h
  obtain ⟨x, n, rfl, e, q⟩ := h
  obtain ⟨u, rfl, rx⟩ := vals1 r
  have hl := line63
  have hs : sizeLine = 16777216 := sizeLine_eq
  cases x with
  | str y =>
    obtain ⟨t, rfl⟩ := rx
    obtain ⟨hy, e'⟩ : y.length ≤ sizeLine ∧ n = y.length := e
    subst e'
    exact len_str (by omega) ⟨.int _, H, I.tok _, ⟨_, rfl⟩, q⟩
  | byt y =>
    obtain ⟨t, rfl⟩ := rx
    obtain ⟨hy, e'⟩ : y.size ≤ sizeLine ∧ n = y.size := e
    subst e'
    exact PySem.W.len_bytes (by omega) ⟨.int _, H, I.tok _, ⟨_, rfl⟩, q⟩
  | ref p =>
    cases rx
    have e' : (∃ xs, SqL X.K H p xs ∧ n = xs.length) ∨ ∃ xs, SqT X.K H p xs ∧ n = xs.length := e
    rcases e' with ⟨xs, hx, e'⟩ | ⟨xs, hx, e'⟩
    · subst e'
      obtain ⟨its, r', pl, hz⟩ := I.list hx
      have hlen := r'.length
      exact Calls.call_len_list pl.isList (by simp only [List.size_toArray]; omega) ⟨.int xs.length, H, I.tok _, ⟨_, by simp only [List.size_toArray]; rw [hlen]⟩, q⟩
    · subst e'
      obtain ⟨its, r', pl, hz⟩ := I.tuple hx
      have hlen := r'.length
      exact len_tuple pl (by simp only [List.size_toArray]; omega) ⟨.int xs.length, H, I.tok _, ⟨_, by simp only [List.size_toArray]; rw [hlen]⟩, q⟩
  | _ => exact (show False from e).elim
end
end L2
namespace L2
open PySem PySem.Spec PyProof.Rows
structure ObjM (h : Heap) (x dx C : Addr) (mA : Str → Option Value) : Prop where
  obj : h.get? x = some (PySem.W.instObj C dx)
  ns : h.Ns1 dx mA
  ne : dx ≠ x
theorem lookIn_ns {h : Heap} {dx : Addr} {mA : Str → Option Value} (n : h.Ns1 dx mA) : ∃ od, h.get? dx = some od ∧ ∀ name, PySem.W.lookIn name od = some (mA name) := by
  obtain ⟨o, es, ep, ho, hd, hk, _, hm⟩ := n
  refine ⟨o, ho, fun name => ?_⟩
  have e := hm name
  unfold nsFind findBy at e
  rw [← Array.find?_toList] at e
  unfold PySem.W.lookIn
  rw [hd]
  dsimp only
  split
  · rename_i y q
    rw [q] at e
    exact congrArg some e
  · rename_i q
    rw [q] at e
    have a : es.toList.any (·.refKey) = false := by
      rw [List.any_eq_false]
      intro y hy
      obtain ⟨z, t, hkey⟩ := hk y (Array.mem_toList_iff.mp hy)
      simp [DictEntry.refKey, hkey]
    have a' : ¬ es.toList.any (·.refKey) = true := by rw [a]; exact Bool.false_ne_true
    rw [if_neg a']
    exact congrArg some e
theorem ObjM.look {h : Heap} {x dx C : Addr} {mA : Str → Option Value} (I : ObjM h x dx C mA) : ∃ od, PySem.W.InstAt h x (PySem.W.instObj C dx) C (some od) ∧ ∀ name, PySem.W.lookIn name od = some (mA name) :=
  let ⟨od, ho, hl⟩ := lookIn_ns I.ns
  ⟨od, ⟨I.obj, rfl, rfl, ho⟩, hl⟩
section
variable {prog : Program} {w : World} {A : Around} {E : Value → Shared → Prop} {s : Shared} {K : PySem.W.Frag} {x dx C f : Addr} {mA : Str → Option Value} {name : Str} {v : Value}
end
theorem RelO.none_of {o : Option Value} (r : RelO none o) : o = none := by
  cases o with
  | none => rfl
  | some u => exact (show False from r).elim
section
variable {P : Program} {w : World} {H H' : Hp} {h h' : Heap} {a C dx : Addr} {fs fs' : List (Str × V)}
theorem ins_get (hok : HOk P w H h) (e : H a = some (.ins C dx fs)) : ∃ mA, ObjM h a dx C mA ∧ (∀ f, RelO (fs.lookup f) (mA f)) ∧ PySem.Within mA (fs.map (·.1)) ∧ fs.length ≤ 1000 ∧ H dx = some (.own a) := by
  obtain ⟨d, z, ne, ob, mA, n, r, q⟩ := (show ObjOk P w H h a (.ins C dx fs) from hok a _ e)
  exact ⟨mA, ⟨ob, n, ne⟩, r, q, z, d⟩
end
structure Cls (K : PySem.W.Frag) (C : Addr) : Prop where
  pg : PySem.W.plainGet K C Str.empty = true
  hd : PySem.W.hasDictIn K C = true
  po : PySem.W.plainOver K C = true
  sa : PySem.W.findIn K (.ref C) "__setattr__" = some (some (.builtin "object.__setattr__"))
theorem Cls.get {K : PySem.W.Frag} {C : Addr} (c : Cls K C) (f : Str) : PySem.W.plainGet K C f = true := c.pg
structure Con (K : PySem.W.Frag) (C : Addr) (f : Str) (v : V) (u : Value) : Prop where
  at_ : PySem.W.findIn K (.ref C) f = some (some u)
  rel : RelV v u
  get : PySem.W.specialIn K u "__get__" = some none
  cp : PySem.W.copiedNames.contains f = false
structure Meth (K : PySem.W.Frag) (C : Addr) (m : Str) (f : Addr) : Prop where
  at_ : PySem.W.findIn K (.ref C) m = some (some (.ref f))
  fn : PySem.W.isFn K (.ref f) = true
  kp : PySem.W.keepIn K (.ref f) = true
section
variable {X : Cx} {pins : List (Addr × Obj)} {σ : St} {H : Hp} {s : Shared} {a C dx : Addr} {fs : List (Str × V)} {f : Str} {v : V} {A : Around} {E : Value → Shared → Prop}
theorem Inv.made (I : Inv X pins σ H s) : Inv X pins σ (upd (upd H s.heap.objs.size (.own (s.heap.objs.size + 1))) (s.heap.objs.size + 1) (.ins C s.heap.objs.size []))
    { s with heap := (s.heap.push PySem.W.emptyDict).push (PySem.W.instObj C s.heap.objs.size) } := by
  have e1 : (s.heap.push PySem.W.emptyDict).get? s.heap.objs.size = some PySem.W.emptyDict := Heap.get?_push_size s.heap rfl
  have e2 : ((s.heap.push PySem.W.emptyDict).push (PySem.W.instObj C s.heap.objs.size)).get? (s.heap.objs.size + 1) = some (PySem.W.instObj C s.heap.objs.size) := by
    have := Heap.get?_push_size (s.heap.push PySem.W.emptyDict) (o := PySem.W.instObj C s.heap.objs.size) rfl
    rwa [Heap.size_push] at this
  have e3 : (s.heap.push PySem.W.emptyDict).Ns s.heap.objs.size (fun _ => none) := ⟨PySem.W.emptyDict, #[], _, e1, rfl, (fun e he => absurd he (by simp)), fun _ => rfl⟩
  have I1 := I.laid (a := s.heap.objs.size) (o := .own (s.heap.objs.size + 1)) (h' := s.heap.push PySem.W.emptyDict) (t' := s.toks) (fun b u q => Heap.get?_push_of_some _ q) (Nat.le_refl _) ⟨_, e1⟩
  refine I1.laid (a := s.heap.objs.size + 1) (o := .ins C s.heap.objs.size []) (t' := s.toks) (fun b u q => Heap.get?_push_of_some _ q) (Nat.le_of_eq (Heap.size_push _ _)) ?_
  have ne : s.heap.objs.size ≠ s.heap.objs.size + 1 := Nat.ne_of_lt (Nat.lt_succ_self _)
  refine ⟨by rw [upd_ne ne, upd_same], Nat.zero_le _, ne, e2, fun _ => none, (Heap.Ns1.of_empty e3).at fun o q => Heap.get?_push_of_some _ q, fun _ => True.intro, fun y hy => absurd rfl hy⟩
end
section
variable {X : Cx} {o e value : Expr} {f : Str} {pos pos' tpos : Pos} {ta tv : TE}
end
section
variable {X : Cx} {pins : List (Addr × Obj)} {σ : St} {H : Hp} {s : Shared} {A : Around} {E : Value → Shared → Prop} {Q : Value → Shared → Prop} {c : Value} {b : Bool}
inductive TyOf (K : PySem.W.Frag) (H : Hp) : V → Value → Prop where
  | non : TyOf K H .non (.type "NoneType")
  | bl (x : Bool) : TyOf K H (.bl x) (.type "bool")
  | int (i : Int) : TyOf K H (.int i) (.type "int")
  | str (x : Str) : TyOf K H (.str x) (.type "str")
  | flt (x : UInt64) : TyOf K H (.flt x) (.type "float")
  | lst {a : Addr} {xs : List V} (e : H a = some (.lst xs)) : TyOf K H (.ref a) (.type "list")
  | frz {a : Addr} {o : Obj} {xs : List V} (e : H a = some (.frz o (.lst xs))) : TyOf K H (.ref a) (.type "list")
  | tup {a : Addr} {xs : List V} (e : H a = some (.tup xs)) : TyOf K H (.ref a) (.type "tuple")
  | dK {a : Addr} {kvs : List (Key × V)} (e : H a = some (.dK kvs)) : TyOf K H (.ref a) (.type "dict")
  | dT {a : Addr} {kvs : List (List Key × V)} (e : H a = some (.dT kvs)) : TyOf K H (.ref a) (.type "dict")
  | ins {a C dx : Addr} {fs : List (Str × V)} (e : H a = some (.ins C dx fs)) (cl : Cls K C) (ha : PySem.W.findIn K (.ref C) "__class__" = some (some (.builtin "object.__class__")))
      (hn : PySem.W.specialIn K (.builtin "object.__class__") "__get__" = some (some (.builtin "getset_descriptor.__get__"))) (htk : PySem.W.takesIn K (.builtin "object.__class__") = some true)
      (hm : PySem.W.mroIn K C (.type "object") = some true) : TyOf K H (.ref a) (.ref C)
theorem isinst_ok {x : V} {u t : Value} (I : Inv X pins σ H s) (rx : RelV x u) (ty : TyOf X.K H x t) (e : PySem.W.kitOne X.K t c = some b) (h : ∀ tk, Q (.bool b) { s with toks := tk }) :
    wpAny (model X.prog X.w) A (call (.builtin "isinstance") [u, c]) Q E s := by
  cases ty with
  | non => cases (show u = Value.none from rx); exact PySem.W.kia_one PySem.W.kitx_none I.kIn True.intro e (fun z => nomatch z) h
  | bl y => cases (show u = Value.bool y from rx); exact PySem.W.kia_one PySem.W.kitx_bool I.kIn True.intro e (fun z => nomatch z) h
  | int i => obtain ⟨t, q⟩ := (show ∃ t, u = Value.int i t from rx); cases q; exact PySem.W.kia_one PySem.W.kitx_int I.kIn True.intro e (fun z => nomatch z) h
  | str y => obtain ⟨t, q⟩ := (show ∃ t, u = Value.str y t from rx); cases q; exact PySem.W.kia_one PySem.W.kitx_str I.kIn True.intro e (fun z => nomatch z) h
  | flt y => obtain ⟨t, q⟩ := (show ∃ t, u = Value.float y t from rx); cases q; exact PySem.W.kia_one PySem.W.kitx_float I.kIn True.intro e (fun z => nomatch z) h
  | @lst a xs ea =>
    cases (show u = Value.ref a from rx)
    obtain ⟨_, _, n, _, h1⟩ := (show ObjOk X.prog X.w H s.heap a (.lst xs) from I.hok a _ ea)
    exact PySem.W.kia_one PySem.W.kitx_list I.kIn ⟨_, h1, rfl⟩ e (fun z => nomatch z) h
  | @frz a ob xs ea =>
    cases (show u = Value.ref a from rx)
    obtain ⟨_, _, _, n, _, h1⟩ := (show ObjOk X.prog X.w H s.heap a (.frz ob (.lst xs)) from I.hok a _ ea)
    exact PySem.W.kia_one PySem.W.kitx_list I.kIn ⟨_, h1, rfl⟩ e (fun z => nomatch z) h
  | @tup a xs ea =>
    cases (show u = Value.ref a from rx)
    obtain ⟨_, _, _, p⟩ := (show ObjOk X.prog X.w H s.heap a (.tup xs) from I.hok a _ ea)
    obtain ⟨o, h1, h2, _⟩ := p
    exact PySem.W.kia_one PySem.W.kitx_tuple I.kIn ⟨o, h1, h2⟩ e (fun z => nomatch z) h
  | @dK a kvs ea =>
    cases (show u = Value.ref a from rx)
    obtain ⟨_, _, vs, _, p⟩ := (show ObjOk X.prog X.w H s.heap a (.dK kvs) from I.hok a _ ea)
    obtain ⟨o, es, ep, h1, h2, _⟩ := p
    exact PySem.W.kia_one PySem.W.kitx_dict I.kIn ⟨o, h1, h2.1⟩ e (fun z => nomatch z) h
  | @dT a kvs ea =>
    cases (show u = Value.ref a from rx)
    obtain ⟨_, _, xs, _, o, es, ep, h1, h2, _⟩ := (show ObjOk X.prog X.w H s.heap a (.dT kvs) from I.hok a _ ea)
    exact PySem.W.kia_one PySem.W.kitx_dict I.kIn ⟨o, h1, h2.1⟩ e (fun z => nomatch z) h
  | @ins a C dx fs ea cl ha hn htk hm =>
    cases (show u = Value.ref a from rx)
    obtain ⟨mA, O, _⟩ := ins_get I.hok ea
    obtain ⟨od, J, _⟩ := O.look
    exact PySem.W.kia_one (PySem.W.kitx_own (cl.get _) cl.hd ha hn htk hm) I.kIn J e (fun z => nomatch z) h
end
end L2
namespace L2
open PySem PySem.Spec PyProof.Rows
structure Room (k : Nat) (A : Around) : Prop where
  hd : A.handled = none
  dp : A.depth + 3 * k + 5 < recursionLimit
  un : A.units + 16 * k + 200 < cLine
theorem Room.mono {j k : Nat} {A : Around} (r : Room k A) (h : j ≤ k) : Room j A := ⟨r.hd, by have := r.dp; omega, by have := r.un; omega⟩
theorem Room.deeper {k : Nat} {A : Around} (r : Room (k + 1) A) (env : Env) : Room k (A.deeper env) :=
  ⟨r.hd, by have := r.dp; show A.depth + 1 + 3 * k + 5 < _; omega, by have := r.un; show A.units + 3 + 16 * k + 200 < _; omega⟩
theorem Room.in1 {k : Nat} {A : Around} (r : Room (k + 1) A) : Room k A.in1 :=
  ⟨r.hd, by have := r.dp; show A.depth + 3 * k + 5 < _; omega, by have := r.un; show A.units + 1 + 16 * k + 200 < _; omega⟩
theorem make_depth {A : Around} {C : Addr} {us : List Value} {kw : List (Str × Value)} : (A.under (.builtin "type.__call__" ⟨.ref C :: us, kw⟩)).depth = A.depth + 1 := by
  first | rfl | simp [Around.under, Code.weight, Code.isCreation, Code.isGuard, Code.isCaller, Code.frames, Code.isFrame, guardIds]
theorem make_units {A : Around} {C : Addr} {us : List Value} {kw : List (Str × Value)} : (A.under (.builtin "type.__call__" ⟨.ref C :: us, kw⟩)).units = A.units + 1 := by
  first | rfl | simp [Around.under, Code.cUnits, Code.frames, Code.isFrame]
theorem Room.make {k : Nat} {A : Around} (r : Room (k + 1) A) (C : Addr) (us : List Value) (kw : List (Str × Value)) : Room k (A.under (.builtin "type.__call__" ⟨.ref C :: us, kw⟩)) :=
  ⟨r.hd, by have := r.dp; rw [make_depth]; omega, by have := r.un; rw [make_units]; omega⟩
theorem Room.depth {k : Nat} {A : Around} (r : Room k A) : A.depth < recursionLimit := by have := r.dp; omega
theorem Room.units {k : Nat} {A : Around} (r : Room k A) : A.units + 64 < cLine := by have := r.un; omega
theorem Room.units0 {k : Nat} {A : Around} (r : Room k A) : A.units < cLine := by have := r.un; omega
def tNil : TA := fun _ H Q => Q [] H
def tCons (ta : TE) (tr : TA) : TA := fun σ H Q => ta σ H fun x H1 => tr σ H1 fun xs H2 => Q (x :: xs) H2
section
variable {X : Cx} {e : Expr} {es : List Expr} {te : TE} {t : TA} {pos : Pos}
theorem pa_nil : PA X [] tNil := fun _ _ _ _ H Q I h => Calls.spliced_nil ⟨[], H, I, .nil, h⟩
theorem pa_cons (ha : PE X e te) (hr : PA X es t) (hs : starEach (e :: es) X.env = (false, eval e X.env) :: starEach es X.env := by rfl) : PA X (e :: es) (tCons te t) := by
  intro pos pins s σ H Q I h
  rw [hs]
  show wpAny _ _ (spliced ((false, eval e X.env) :: backTo pos (starEach es X.env))) _ _ s
  refine Calls.spliced_cons (thn (ha pins s σ H _ I h) fun u s1 ⟨x, H1, I1, r1, q1⟩ => ?_)
  exact thn (hr pos pins s1 σ H1 _ I1 q1) fun us s2 ⟨xs, H2, I2, r2, q2⟩ => ⟨x :: xs, H2, I2, .cons r1 r2, q2⟩
def tTup (t : TA) : TE := fun σ H Q => t σ H fun xs H1 => xs.length ≤ sizeLine ∧ ∀ p, H1 p = none → Q (.ref p) (upd H1 p (.tup xs))
def tLst (t : TA) : TE := fun σ H Q => t σ H fun xs H1 => xs.length ≤ sizeLine ∧ ∀ p, H1 p = none → Q (.ref p) (upd H1 p (.lst xs))
theorem pe_tup {x1} (h : PA X es t) : PE X (.Tuple es x1 pos) (tTup t) := by
  intro pins s σ H Q I hq
  refine wpAny_Tuple_spliced (thn (h pos pins s σ H _ I hq) fun us s1 ⟨xs, H1, I1, r, z, q⟩ => ⟨by rw [← r.length]; exact z, ?_⟩)
  have hf : H1 s1.heap.objs.size = none := I1.hok.fresh (Nat.le_refl _)
  refine ⟨.ref s1.heap.objs.size, upd H1 s1.heap.objs.size (.tup xs), I1.laid (t' := s1.toks) (fun b u e => Heap.get?_push_of_some _ e) (Nat.le_refl _) ?_, rfl, q _ hf⟩
  exact ⟨z, us, r, ⟨_, Heap.get?_push_size _ rfl, rfl, _, rfl⟩⟩
theorem pe_lst (h : PA X es t) : PE X (.List es pos) (tLst t) := by
  intro pins s σ H Q I hq
  refine wpAny_List_spliced (thn (h pos pins s σ H _ I hq) fun us s1 ⟨xs, H1, I1, r, z, q⟩ => ⟨by rw [← r.length]; exact z, ?_⟩)
  have hf : H1 s1.heap.objs.size = none := I1.hok.fresh (Nat.le_refl _)
  refine ⟨.ref s1.heap.objs.size, upd H1 s1.heap.objs.size (.lst xs), I1.laid (t' := s1.toks) (fun b u e => Heap.get?_push_of_some _ e) (Nat.le_refl _) ?_, rfl, q _ hf⟩
  exact ⟨z, us, 0, r, Heap.get?_push_size _ rfl⟩
end
abbrev Sp := List V → Hp → VK → XK → Prop
abbrev CXT := List Env → Hp → Shared → XK → Value → Shared → Prop
structure Env0 (P : Program) (w : World) (K : PySem.W.Frag) (mg : Str → Option Value) (base : Heap) (A : Around) (outer : List Env) (s : Shared) (H : Hp) : Prop where
  frames : A.frames = some outer
  mod : Mod K mg base
  bs : ∀ b o, base.get? b = some o → s.heap.get? b = some o ∧ H b = none
  bsz : base.objs.size ≤ s.heap.objs.size
  funs : s.heap.FunFrames base outer
  frf : ∀ b ∈ frs outer, H b = none
  hok : HOk P w H s.heap
  bare : AllBare s.gens
def CE (outer : List Env) (P : Program) (w : World) (H : Hp) (s : Shared) (Q : VK) (u : Value) (s' : Shared) : Prop :=
  ∃ v H', s'.os = s.os ∧ AllBare s'.gens ∧ Un (frs outer) [] H H' s.heap s'.heap ∧ HOk P w H' s'.heap ∧ RelV v u ∧ Q v H'
def CR (CX : CXT) (outer : List Env) (P : Program) (w : World) (H : Hp) (s : Shared) (Q : VK) (E : XK) (r : Result) (s' : Shared) : Prop :=
  match r with
  | .ok (.ret u) => CE outer P w H s Q u s'
  | .ok _ => False
  | .error e => CX outer H s E e s'
structure FnOk (P : Program) (w : World) (K : PySem.W.Frag) (mg : Str → Option Value) (base : Heap) (CX : CXT) (k : Nat) (f : Addr) (fd : FuncData) (ps : List Str) (sp : Sp) : Prop where
  len : ∀ vs H Q E, sp vs H Q E → vs.length = ps.length
  run : ∀ (A : Around) (outer : List Env) (s : Shared) (H : Hp) (args : Args) (us : List Value) (vs : List V) (Q : VK) (E : XK), Room k A → Env0 P w K mg base A outer s H → BindsTo s fd args (ps.zip us) → Vals vs us → sp vs H Q E →
    codeAny (model P w) A (.call (.ref f) args) (CR CX outer P w H s Q E) s
theorem FnOk.mono {P : Program} {w : World} {K : PySem.W.Frag} {mg : Str → Option Value} {base : Heap} {CX : CXT} {j k : Nat} {f : Addr} {fd : FuncData} {ps : List Str} {sp : Sp} (F : FnOk P w K mg base CX j f fd ps sp) (h : j ≤ k) :
    FnOk P w K mg base CX k f fd ps sp := ⟨F.len, fun A outer s H args us vs Q E hr => F.run A outer s H args us vs Q E (hr.mono h)⟩
theorem FnOk.imp {P : Program} {w : World} {K : PySem.W.Frag} {mg : Str → Option Value} {base : Heap} {CX : CXT} {k : Nat} {f : Addr} {fd : FuncData} {ps : List Str} {sp sp' : Sp} (F : FnOk P w K mg base CX k f fd ps sp)
    (h : ∀ vs H Q E, sp' vs H Q E → sp vs H Q E) : FnOk P w K mg base CX k f fd ps sp' :=
  ⟨fun vs H Q E q => F.len vs H Q E (h _ _ _ _ q), fun A outer s H args us vs Q E hr he hb hv hs => F.run A outer s H args us vs Q E hr he hb hv (h _ _ _ _ hs)⟩
theorem Env0.make {P : Program} {w : World} {K : PySem.W.Frag} {mg : Str → Option Value} {base : Heap} {A : Around} {outer : List Env} {s : Shared} {H : Hp} (e : Env0 P w K mg base A outer s H) (C : Addr) (us : List Value) (kw : List (Str × Value)) :
    Env0 P w K mg base (A.under (.builtin "type.__call__" ⟨.ref C :: us, kw⟩)) outer s H := ⟨by first | exact e.frames | (simpa [Around.under, Code.envs, Code.isFrame, pushEnvs] using e.frames), e.mod, e.bs, e.bsz, e.funs, e.frf, e.hok, e.bare⟩
theorem Env0.in1 {P : Program} {w : World} {K : PySem.W.Frag} {mg : Str → Option Value} {base : Heap} {A : Around} {outer : List Env} {s : Shared} {H : Hp} (e : Env0 P w K mg base A outer s H) :
    Env0 P w K mg base A.in1 outer s H := ⟨e.frames, e.mod, e.bs, e.bsz, e.funs, e.frf, e.hok, e.bare⟩
section
variable {X : Cx} {pins : List (Addr × Obj)} {σ : St} {H : Hp} {s s' : Shared}
theorem Inv.env0 (I : Inv X pins σ H s) : Env0 X.prog X.w X.K X.mg X.base X.A X.stack s H :=
  ⟨I.ok.frames, I.ok.mod, I.bs, Nat.le_trans I.ok.bsz I.sz, I.stack, I.stkFree, I.hok, I.bare⟩
theorem Inv.after {Q : VK} {u : Value} (I : Inv X pins σ H s) (h : CE X.stack X.prog X.w H s Q u s') : EP X pins σ Q u s' := by
  obtain ⟨v, H', os, bare, un, hok, r, q⟩ := h
  obtain ⟨hh, g, d, t, os'⟩ := s'
  obtain rfl : os' = s.os := os
  exact ⟨v, H', I.call (h' := hh) (g' := g) (d' := d) (t' := t) (ch := []) un hok bare (fun b z => absurd z (by simp)), r, q⟩
end
def tCall (sp : Sp) (dvs : List V) (E : XK) (t : TA) : TE := fun σ H Q => t σ H fun vs H1 => sp (vs ++ dvs) H1 Q E
def Binds (K : PySem.W.Frag) (fd : FuncData) (ps : List Str) (ds : List Value) : Prop :=
  ∀ (s : Shared) (us : List Value), K.In s.heap → (us ++ ds).length = ps.length → BindsTo s fd ⟨us, []⟩ (ps.zip (us ++ ds))
theorem Binds.all {K : PySem.W.Frag} {fd : FuncData} {ps : List Str} (h : ∀ us : List Value, us.length = ps.length → bindArgs fd ⟨us, []⟩ = pure (ps.zip us)) : Binds K fd ps [] := fun s us _ hl => by
  rw [List.append_nil] at hl ⊢
  exact .of_eq (h us hl)
def Passes (CX : CXT) (X : Cx) (E : XK) : Prop := ∀ (pins : List (Addr × Obj)) (σ : St) (H : Hp) (s : Shared) (e : Value) (s' : Shared), Inv X pins σ H s → CX X.stack H s E e s' → X.xe e s'
section
variable {X : Cx} {CX : CXT} {k : Nat} {f C : Addr} {fd : FuncData} {ps : List Str} {sp : Sp} {dvs : List V} {ds : List Value} {E : XK} {x m : Str} {p pos apos : Pos} {e o : Expr} {es : List Expr} {ta : TE} {t : TA}
theorem run_fn {pins : List (Addr × Obj)} {σ : St} {H : Hp} {s : Shared} {Q : VK} {us : List Value} {vs : List V} (F : FnOk X.prog X.w X.K X.mg X.base CX k f fd ps sp) (hr : Room k X.A) (hb : Binds X.K fd ps ds) (hd : Vals dvs ds) (hx : Passes CX X E)
    (I : Inv X pins σ H s) (r : Vals vs us) (h : sp (vs ++ dvs) H Q E) : wpAny (model X.prog X.w) X.A (call (.ref f) us) (EP X pins σ Q) X.xe s := by
  have r2 : Vals (vs ++ dvs) (us ++ ds) := r.append hd
  have hl : (us ++ ds).length = ps.length := by rw [← r2.length]; exact F.len _ _ _ _ h
  refine wpAny_call (codeAny_mono (F.run X.A X.stack s H ⟨us, []⟩ (us ++ ds) (vs ++ dvs) Q E hr I.env0 (hb s us I.kIn hl) r2 h) fun r s' hq => ?_)
  cases r with
  | error e => exact hx pins σ H s e s' I hq
  | ok fl =>
    cases fl with
    | ret u => exact I.after hq
    | next => exact False.elim hq
    | brk => exact False.elim hq
    | cont => exact False.elim hq
theorem pe_call (F : FnOk X.prog X.w X.K X.mg X.base CX k f fd ps sp) (hr : Room k X.A) (hg : Gl X x) (hm : X.mg x = some (.ref f)) (hk : PySem.W.keepIn X.K (.ref f) = true) (hb : Binds X.K fd ps ds) (hd : Vals dvs ds) (hx : Passes CX X E)
    (ha : PA X (e :: es) t) (hdb : (x == ("__debug__" : Str)) = false := by decide) (he : starEach (e :: es) X.env = (false, eval e X.env) :: starEach es X.env := by rfl) (hpl : (backTo pos (starEach es X.env)).any (·.1) = false := by rfl) :
    PE X (.Call (.Name x p) (e :: es) [] pos) (tCall sp dvs E t) := by
  intro pins s σ H Q I h
  refine wpAny_Call_Name_kw (ld_glob I hg hm ?_ hdb)
  refine PySem.W.callWith_K (h₀ := X.base) I.ok.mod.kin hk (thn (ha pos pins s σ H _ I h) fun us s1 ⟨vs, H1, I1, r, q⟩ => ⟨I1.kIn, ?_⟩) he hpl
  exact run_fn F hr hb hd hx I1 r q
structure Mk (K : PySem.W.Frag) (C f : Addr) : Prop where
  makes : PySem.W.makesIn K C = true
  init : PySem.W.findIn K (.ref C) "__init__" = some (some (.ref f))
  fn : PySem.W.isFn K (.ref f) = true
  kp : PySem.W.keepIn K (.ref C) = true
end
section
variable {X : Cx} {CX : CXT} {k : Nat} {f C : Addr} {fd : FuncData} {ps ks : List Str} {sp : Sp} {E : XK} {x m : Str} {p pos apos kpos : Pos} {e o : Expr} {es : List Expr} {kws : List Keyword} {te ta : TE} {t tk : TA} {nm : Option Str}
structure KBinds (K : PySem.W.Frag) (fd : FuncData) (ps ks : List Str) (g : List Value → List Value → List Value) (gV : List V → List V → List V) : Prop where
  to : ∀ (s : Shared) (us ws : List Value), K.In s.heap → (g us ws).length = ps.length → BindsTo s fd ⟨us, ks.zip ws⟩ (ps.zip (g us ws))
  rel : ∀ {vs : List V} {us : List Value} {zs : List V} {ws : List Value}, Vals vs us → Vals zs ws → Vals (gV vs zs) (g us ws)
variable {g : List Value → List Value → List Value} {gV : List V → List V → List V}
end
structure FnScope (N P : List Str) (sc : Scope) : Prop where
  kind : sc.kind = .function
  co : sc.isCoroutine = false
  gen : sc.isGenerator = false
  nd : N.Nodup
  pre : N.take P.length = P
  par : ∀ x ∈ P, sc.names.lookup x = some .local ∨ sc.names.lookup x = some .cell
  nofree : ∀ y ∈ sc.names, y.2 ≠ .free
theorem bindL_out {kindOf : Str → Option NameKind} {x : Str} : ∀ {binds : List (Str × Value)} {m : Str → Option Value}, (∀ v, (x, v) ∉ binds) → bindL kindOf binds m x = m x
  | [], _, _ => rfl
  | (n, v) :: r, m, h => by
    unfold bindL
    rw [bindL_out fun w hw => h w (List.mem_cons_of_mem _ hw)]
    split
    · have : x ≠ n := by rintro rfl; exact h v List.mem_cons_self
      simp [this]
    · rfl
theorem bindC_out {kindOf : Str → Option NameKind} {x : Str} : ∀ {binds : List (Str × Value)} {m : Str → Option Value}, (∀ v, (x, v) ∉ binds) → bindC kindOf binds m x = m x
  | [], _, _ => rfl
  | (n, v) :: r, m, h => by
    unfold bindC
    rw [bindC_out fun w hw => h w (List.mem_cons_of_mem _ hw)]
    split
    · rfl
    · have : x ≠ n := by rintro rfl; exact h v List.mem_cons_self
      simp [this]
theorem bindL_get {kindOf : Str → Option NameKind} {x : Str} {v : Value} : ∀ {P : List Str} {vs : List Value} {i : Nat} {m : Str → Option Value}, P.Nodup → P[i]? = some x → vs[i]? = some v → kindOf x = some .local →
    bindL kindOf (P.zip vs) m x = some v
  | [], _, _, _, _, h, _, _ => by simp at h
  | _ :: _, [], _, _, _, _, h, _ => by simp at h
  | p :: P, w :: vs, 0, m, nd, h1, h2, hk => by
    simp at h1 h2; subst h1; subst h2
    show bindL kindOf ((p, w) :: P.zip vs) m p = _
    unfold bindL
    rw [bindL_out fun v hv => (List.nodup_cons.mp nd).1 (List.of_mem_zip hv).1, if_pos hk]
    simp
  | p :: P, w :: vs, i + 1, m, nd, h1, h2, hk => by
    show bindL kindOf ((p, w) :: P.zip vs) m x = _
    unfold bindL
    exact bindL_get (i := i) (List.nodup_cons.mp nd).2 (by simpa using h1) (by simpa using h2) hk
theorem bindC_get {kindOf : Str → Option NameKind} {x : Str} {v : Value} : ∀ {P : List Str} {vs : List Value} {i : Nat} {m : Str → Option Value}, P.Nodup → P[i]? = some x → vs[i]? = some v → kindOf x ≠ some .local →
    bindC kindOf (P.zip vs) m x = some v
  | [], _, _, _, _, h, _, _ => by simp at h
  | _ :: _, [], _, _, _, _, h, _ => by simp at h
  | p :: P, w :: vs, 0, m, nd, h1, h2, hk => by
    simp at h1 h2; subst h1; subst h2
    show bindC kindOf ((p, w) :: P.zip vs) m p = _
    unfold bindC
    rw [bindC_out fun v hv => (List.nodup_cons.mp nd).1 (List.of_mem_zip hv).1, if_neg hk]
    simp
  | p :: P, w :: vs, i + 1, m, nd, h1, h2, hk => by
    show bindC kindOf ((p, w) :: P.zip vs) m x = _
    unfold bindC
    exact bindC_get (i := i) (List.nodup_cons.mp nd).2 (by simpa using h1) (by simpa using h2) hk
def start (N : List Str) (vs : List V) : St := vs.map some ++ List.replicate (N.length - vs.length) none
def cxOf (CX : CXT) (P : Program) (w : World) (K : PySem.W.Frag) (mg : Str → Option Value) (base : Heap) (N : List Str) (qual : Str) (scope : Scope) (f : Addr) (cd : Value) (A : Around) (outer : List Env) (s : Shared) (H : Hp) (E : XK) : Cx where
  prog := P
  w := w
  K := K
  mg := mg
  base := base
  A := A.deeper (envOfC qual scope s.heap.objs.size f cd)
  N := N
  s₀ := s
  H₀ := H
  env := envOfC qual scope s.heap.objs.size f cd
  outer := outer
  stack := envOfC qual scope s.heap.objs.size f cd :: outer
  ex := []
  calm := true
  fn := fun _ => true
  pn := []
  xe := fun e s' => wpAny (model P w) (A.deeper (envOfC qual scope s.heap.objs.size f cd)) (leaving (envOfC qual scope s.heap.objs.size f cd) e) (fun _ s'' => CX outer H s E e s'') (fun e' s'' => CX outer H s E e' s'') s'
theorem cell_has {sc : Scope} {n : Nat} {x : Str} (h : sc.names.lookup x = some .cell) : ∃ c, (cellsFrom n sc.names []).lookup x = some c := by
  have q := PySem.W.cellsFrom_some sc.names n [] (.inl h)
  exact Option.isSome_iff_exists.mp q
theorem inv_start {CX : CXT} {P : Program} {w : World} {K : PySem.W.Frag} {mg : Str → Option Value} {base : Heap} {N ps : List Str} {qual : Str} {scope : Scope} {f : Addr} {cd : Value} {A : Around} {outer : List Env} {s s1 : Shared} {H : Hp} {E : XK} {us : List Value} {vs : List V}
    (S : FnScope N ps scope) (hd : A.handled = none) (e0 : Env0 P w K mg base A outer s H) (hl : vs.length = ps.length) (r : Vals vs us)
    (x : InCallC s s.heap.objs.size (bindL (envOfC qual scope s.heap.objs.size f cd).kindOf (ps.zip us) fun _ => none) (cellsFrom (s.heap.objs.size + 1) scope.names []) (bindC (envOfC qual scope s.heap.objs.size f cd).kindOf (ps.zip us) fun _ => none) s1) :
    Inv (cxOf CX P w K mg base N qual scope f cd A outer s H E) [] (start N vs) H s1 := by
  have hpl : ps.length ≤ N.length := by have := congrArg List.length S.pre; rw [List.length_take] at this; omega
  obtain ⟨h1, tk, rfl, hk⟩ := x.done
  have noA : ∀ b : Addr, b ∉ (cxOf CX P w K mg base N qual scope f cd A outer s H E).ex := fun b z => absurd (show b ∈ ([] : List Addr) from z) (by simp)
  refine ⟨⟨e0.mod, S.kind, rfl, rfl, Nat.le_refl _, fun y z c h1 h2 => ?_, fun y hy => ?_, fun y c _ h => ?_, fun _ => hd, Around.frames_deeper e0.frames, .inr ⟨rfl, rfl⟩, fun b z => absurd z (noA b), e0.bs, e0.bsz, fun b _ _ => noA b, fun b z => absurd z (noA b), e0.funs, e0.frf⟩,
    rfl, e0.bare, Un.kept hk, ⟨_, x.toInCall.ns, fun i y v h1 h2 h3 => ?_⟩, fun y c h => ⟨_, x.cell y c h⟩, e0.hok.fresh (Nat.le_refl _), fun y c h => ?_, fun p hp => absurd (show p ∈ ([] : List (Addr × Obj)) from hp) (by simp), e0.hok.kept hk, ?_⟩
  · exact name_of_addr x.apart (PySem.mem_of_lookup h1) (PySem.mem_of_lookup h2)
  · have hy : scope.names.lookup y = some .cell ∨ scope.names.lookup y = some .free := hy
    rcases hy with hy | hy
    · exact cell_has hy
    · exact absurd rfl (S.nofree _ (PySem.mem_of_lookup hy))
  · exact Nat.le_of_lt (x.above y c (PySem.mem_of_lookup h))
  · have hi : i < vs.length := by
      unfold start at h2
      by_cases hi : i < vs.length
      · exact hi
      · rw [List.getElem?_append_right (by simpa using hi)] at h2
        rw [List.getElem?_replicate] at h2
        split at h2 <;> cases h2
    have ha : vs[i]? = some v := by
      unfold start at h2
      rw [List.getElem?_append_left (by simpa using hi), List.getElem?_map] at h2
      cases e : vs[i]? with
      | none => rw [e] at h2; cases h2
      | some a => rw [e] at h2; cases h2; rfl
    obtain ⟨u, hu, rv⟩ := r.get ha
    have hp : ps[i]? = some y := by
      rw [← S.pre, List.getElem?_take_of_lt (by omega)]; exact h1
    have ndP : ps.Nodup := by rw [← S.pre]; exact S.nd.sublist (List.take_sublist _ _)
    refine ⟨u, rv, ?_⟩
    rcases S.par y (List.mem_of_getElem? hp) with k | k
    · exact .inl ⟨k, bindL_get ndP hp hu k⟩
    · obtain ⟨c, e⟩ := cell_has (n := s.heap.objs.size + 1) k
      refine .inr ⟨.inl k, c, e, ?_⟩
      have q := x.cell y c e
      rw [bindC_get ndP hp hu (by show scope.names.lookup y ≠ _; rw [k]; decide)] at q
      exact q
  · exact e0.hok.fresh (Nat.le_of_lt (x.above y c (PySem.mem_of_lookup h)))
  · unfold start
    show _ = N.length
    rw [List.length_append, List.length_map, List.length_replicate]
    omega
theorem fn_of {CX : CXT} {P : Program} {w : World} {K : PySem.W.Frag} {mg : Str → Option Value} {base : Heap} {k : Nat} {f : Addr} {name qual : Str} {params : Arguments} {body : List Stmt} {scope : Scope} {dV kV doc pm cdv ct oc : Value} {an od : Option Addr}
    {osl : Array (Option Value)} {N ps : List Str} {sp : Sp} (lk : K.lookup f = some ⟨oc, od, .func (PySem.W.fnOf name qual params body scope dV kV doc pm an cdv ct), osl⟩) (hcd : PySem.W.codeIn K cdv qual = true) (S : FnScope N ps scope)
    (len : ∀ vs H Q E, sp vs H Q E → vs.length = ps.length)
    (hbody : ∀ (A : Around) (outer : List Env) (s : Shared) (H : Hp) (vs : List V) (Q : VK) (E : XK), Room k (A.deeper (envOfC qual scope s.heap.objs.size f cdv)) → sp vs H Q E →
      ∃ t, PSs (cxOf CX P w K mg base N qual scope f cdv A outer s H E) body t ∧ t { nx := fun _ H' => Q .non H', rt := Q } (start N vs) H) :
    FnOk P w K mg base CX (k + 1) f (PySem.W.fnOf name qual params body scope dV kV doc pm an cdv ct) ps sp := by
  refine ⟨len, fun A outer s H args us vs Q E hr e0 hb r hsp => ?_⟩
  have hl := len _ _ _ _ hsp
  have KX : K.In s.heap := e0.mod.kin.keeps fun b o e => (e0.bs b o e).1
  have lim : s.heap.NoLimit := e0.mod.nolimit.keeps fun b o e => (e0.bs b o e).1
  have hkind : ∀ y ∈ ps.zip us, scope.names.lookup y.1 = some .local ∨ (scope.names.lookup y.1 = some .cell ∧ ((cellsFrom (s.heap.objs.size + 1) scope.names []).lookup y.1).isSome = true) := fun ⟨n, v⟩ hy => by
    rcases S.par n (List.of_mem_zip hy).1 with q | q
    · exact .inl q
    · exact .inr ⟨q, PySem.W.cellsFrom_some _ _ _ (.inl q)⟩
  refine codeAny_call_function hr.depth (KX _ _ lk) rfl S.co S.gen rfl (PySem.W.codeRec_of KX hcd) (hb _ _ _ _ ?_)
  refine wpAny_newFunctionEnv_cells S.kind hkind fun env he s1 x => ?_
  subst he
  refine ⟨lim.keeps x.toInCall.keep, codeAny_func ?_⟩
  obtain ⟨t, ht, hq⟩ := hbody A outer s H vs Q E (hr.deeper _) hsp
  have I : Inv (cxOf CX P w K mg base N qual scope f cdv A outer s H E) [] (start N vs) H s1 := inv_start S hr.hd e0 hl r x
  refine wpAny_mono (ht [] s1 (start N vs) H _ I hq) (fun fl s' hs => ?_) fun e s' hs => hs
  have fin : ∀ {σ' : St} {H' : Hp} {v : V} {u : Value}, Inv (cxOf CX P w K mg base N qual scope f cdv A outer s H E) [] σ' H' s' → RelV v u → Q v H' → CE outer P w H s Q u s' :=
    fun {σ' H' v u} J rv q => ⟨v, H', J.os, J.bare, J.base, J.hok, rv, q⟩
  cases fl with
  | ret u =>
    obtain ⟨v, σ', H', J, rv, q⟩ := hs
    exact fin J rv q
  | next =>
    obtain ⟨σ', H', J, q⟩ := hs
    exact fin (v := V.non) (u := Value.none) J rfl q
  | brk =>
    obtain ⟨_, _, _, q⟩ := hs
    exact False.elim q
  | cont =>
    obtain ⟨_, _, _, q⟩ := hs
    exact False.elim q
end L2
namespace L2
open PySem PySem.Spec PyProof.Rows
section
variable {X : Cx} {x : Str} {p pos : Pos} {e : Expr} {es : List Expr} {t : TA} {id T : String} {r : List V → Hp → VK → Prop}
def tCB (r : List V → Hp → VK → Prop) (t : TA) : TE := fun σ H Q => t σ H fun vs H1 => r vs H1 Q
theorem pe_callB (hc : CallR X (.builtin id) r) (hg : Gl X x) (hm : X.mg x = none) (hv : bootBuiltins x = some (.builtin id)) (ha : PA X (e :: es) t) (hn : x ≠ "__name__" := by decide) (hdb : (x == ("__debug__" : Str)) = false := by decide)
    (he : starEach (e :: es) X.env = (false, eval e X.env) :: starEach es X.env := by rfl) (hpl : (backTo pos (starEach es X.env)).any (·.1) = false := by rfl) : PE X (.Call (.Name x p) (e :: es) [] pos) (tCB r t) := by
  intro pins s σ H Q I h
  refine wpAny_Call_Name_kw (ld_blt I hg hm hv ?_ hn hdb)
  exact PyProof.Rows.callWith_builtin1 (thn (ha pos pins s σ H _ I h) fun us s1 ⟨vs, H1, I1, r1, q1⟩ => hc pins s1 σ H1 vs us Q I1 r1 q1) he hpl
theorem pe_callTy (hc : CallR X (.type T) r) (hg : Gl X x) (hm : X.mg x = none) (hv : bootBuiltins x = some (.type T)) (ha : PA X (e :: es) t) (hn : x ≠ "__name__" := by decide) (hdb : (x == ("__debug__" : Str)) = false := by decide)
    (he : starEach (e :: es) X.env = (false, eval e X.env) :: starEach es X.env := by rfl) (hpl : (backTo pos (starEach es X.env)).any (·.1) = false := by rfl) : PE X (.Call (.Name x p) (e :: es) [] pos) (tCB r t) := by
  intro pins s σ H Q I h
  refine wpAny_Call_Name_kw (ld_blt I hg hm hv ?_ hn hdb)
  exact PyProof.Rows.callWith_type1 (thn (ha pos pins s σ H _ I h) fun us s1 ⟨vs, H1, I1, r1, q1⟩ => hc pins s1 σ H1 vs us Q I1 r1 q1) he hpl
end
end L2
namespace HT
open PySem PyProof.Rows
section
open PySem.SeqAt
open PySem.AutoSeq1 (wpAny_loadPart')
open PySem.MeetsSeq PySem.MeetsSeq2 PySem.MeetsSeq3
end
section
variable {prog : Program} {w : World} {A : Around} {E : Value → Shared → Prop} {s : Shared}
theorem cat_tup {t b : Addr} {vs ws : List Value} {Q : Value → Shared → Prop} (ht : IsTup s.heap t vs.toArray) (hb : IsTup s.heap b ws.toArray) (hv : vs ≠ [])
    (h1 : ws = [] → Q (.ref t) s) (h2 : ws ≠ [] → Q (.ref s.heap.objs.size) { s with heap := s.heap.push { cls := .type "tuple", data := .seq (vs ++ ws).toArray } })
    (hsz : vs.length + ws.length ≤ sizeLine) : wpAny (model prog w) A (binaryOp .Add (.ref t) (.ref b)) Q E s := by
  obtain ⟨⟨cls, dd, data, sl⟩, ho, hc, n, hd⟩ := id ht
  obtain ⟨⟨cls2, dd2, data2, sl2⟩, ho2, hc2, n2, hd2⟩ := id hb
  simp only at hc hd hc2 hd2
  subst hc hd hc2 hd2
  have e : vs.toArray ++ ws.toArray = (vs ++ ws).toArray := by simp
  by_cases hw : ws = []
  · exact concat_meets ⟨_, ho, rfl⟩ ⟨_, ho2, rfl⟩ noFill_tuple_add seq_tuple_add PySem.F.slot_tuple_add PySem.F.entry_tuple_add (PySem.F.args_tuple_add_2 _ _)
      (tuple_addW1 t b vs.toArray ws.toArray n n2 dd dd2 sl sl2 (by simpa using hv) (by simp [hw])) ⟨ho, ho2, h1 hw⟩
  · refine concat_meets ⟨_, ho, rfl⟩ ⟨_, ho2, rfl⟩ noFill_tuple_add seq_tuple_add PySem.F.slot_tuple_add PySem.F.entry_tuple_add (PySem.F.args_tuple_add_2 _ _)
      (tuple_addW2 t b vs.toArray ws.toArray n n2 dd dd2 sl sl2 (by simpa using hv) (by simpa using hw) (by rw [List.size_toArray, List.size_toArray]; exact hsz)) ⟨ho, ho2, ?_⟩
    rw [e]
    exact h2 hw
def sIx (n d : Nat) : Option Int → Nat
  | none => d
  | some v => if v < 0 then (v + (n : Int)).toNat else min v.toNat n
theorem sIx_le (n d : Nat) (hd : d ≤ n) (o : Option Int) : sIx n d o ≤ n := by
  cases o with
  | none => exact hd
  | some v =>
    show (if v < 0 then (v + (n : Int)).toNat else min v.toNat n) ≤ n
    by_cases hv : v < 0
    · rw [if_pos hv]; omega
    · rw [if_neg hv]; exact Nat.min_le_right _ _
theorem clip_eq (v : Int) (n d : Nat) : (if v < 0 then max (v + (n : Int)) 0 else min v (n : Int)) = ((sIx n d (some v) : Nat) : Int) := by
  show (if v < 0 then max (v + (n : Int)) 0 else min v (n : Int)) = (((if v < 0 then (v + (n : Int)).toNat else min v.toNat n) : Nat) : Int)
  by_cases hv : v < 0
  · simp only [if_pos hv]; omega
  · simp only [if_neg hv]; omega
theorem adjust_gen (lo hi : Option Int) (n : Nat) : Builtin.Slice.sliceAdjust lo hi 1 (n : Int) = (((sIx n 0 lo : Nat) : Int), ((sIx n n hi : Nat) : Int)) := by
  have h1 : ¬ ((1 : Int) < 0) := by omega
  unfold Builtin.Slice.sliceAdjust
  simp only [h1, if_false]
  refine Prod.ext ?_ ?_
  · cases lo with
    | none => rfl
    | some v => exact clip_eq v n 0
  · cases hi with
    | none => rfl
    | some v => exact clip_eq v n n
theorem places_gen (i j : Nat) : Builtin.Slice.slicePlaces (i : Int) (j : Int) 1 = j - i := by
  unfold Builtin.Slice.slicePlaces
  have h1 : (1 : Int) > 0 := by omega
  simp only [h1, if_true, Int.ediv_one]
  split <;> omega
theorem slicePart_ {v : Value} {o : Option Int} {Q : Option Int → Shared → Prop} (p : IsPart v o) (h : Q o s) : wpAny (model prog w) A (Builtin.Slice.slicePartIndex v) Q E s := by
  cases p with
  | none => exact slicePart_none h
  | int i t => exact slicePart_int h
theorem sliceApplied_gen {sl : Addr} {vl vu : Value} {lo hi : Option Int} {n : Nat} {Q : Int × Int × Nat → Shared → Prop} (hs : s.heap.IsSliceOf sl vl vu .none) (pl : IsPart vl lo) (pu : IsPart vu hi)
    (h : Q (((sIx n 0 lo : Nat) : Int), 1, sIx n n hi - sIx n 0 lo) s) : wpAny (model prog w) A (Builtin.Slice.sliceApplied (.ref sl) (pure (n : Int))) Q E s := by
  obtain ⟨os, hos, hcs, hds⟩ := id hs
  unfold Builtin.Slice.sliceApplied Builtin.Slice.sliceFields
  refine wpAny_bind (wpAny_bind (wpAny_field hos hds (x := vl) rfl (wpAny_bind (wpAny_field hos hds (x := vu) rfl (wpAny_bind (wpAny_field hos hds (x := .none) rfl (wpAny_pure ?_)))))))
  refine wpAny_bind (slicePart_none ?_)
  show wpAny _ _ (if ((1 : Int) == 0) = true then _ else _) _ _ s
  rw [if_neg (by decide)]
  refine wpAny_bind (slicePart_ pl (wpAny_bind (slicePart_ pu (wpAny_bind (wpAny_pure ?_)))))
  show wpAny _ _ (match Builtin.Slice.sliceAdjust lo hi 1 (n : Int) with | (lo, hi) => pure (lo, (1 : Int), Builtin.Slice.slicePlaces lo hi 1)) _ _ s
  rw [adjust_gen lo hi n]
  show wpAny _ _ (pure (((sIx n 0 lo : Nat) : Int), (1 : Int), Builtin.Slice.slicePlaces ((sIx n 0 lo : Nat) : Int) ((sIx n n hi : Nat) : Int) 1)) _ _ s
  rw [places_gen]
  exact wpAny_pure h
theorem pick_gen (xs : Array Value) (i k : Nat) : ((List.range k).filterMap fun (m : Nat) => xs[((i : Int) + (m : Int) * 1).toNat]?).toArray = ((xs.toList.drop i).take k).toArray := by
  have e : (fun (m : Nat) => xs[((i : Int) + (m : Int) * 1).toNat]?) = fun m => xs[i + m]? := by
    funext m
    have : ((i : Int) + (m : Int) * 1).toNat = i + m := by omega
    rw [this]
  rw [e]
  have := pick_run xs i k
  rw [List.filterMap_map] at this
  have e2 : ((fun x => xs[x]?) ∘ fun x => i + x) = fun m => xs[i + m]? := rfl
  rw [e2] at this
  rw [this]
theorem getItem_tuple_cut {t sl : Addr} {items : Array Value} {vl vu : Value} {lo hi : Option Int} {Q : Value → Shared → Prop} (ht : IsTup s.heap t items) (hs : s.heap.IsSliceOf sl vl vu .none) (pl : IsPart vl lo) (pu : IsPart vu hi)
    (hw : ¬ (sIx items.size 0 lo = 0 ∧ sIx items.size items.size hi = items.size))
    (h : Q (.ref s.heap.objs.size) { s with heap := s.heap.push { cls := .type "tuple", data := .seq ((items.toList.drop (sIx items.size 0 lo)).take (sIx items.size items.size hi - sIx items.size 0 lo)).toArray } })
    (hsz : items.size ≤ sizeLine) : wpAny (model prog w) A (getItem (.ref t) (.ref sl)) Q E s := by
  have htake : sizeOk (.seq ((items.toList.drop (sIx items.size 0 lo)).take (sIx items.size items.size hi - sIx items.size 0 lo)).toArray) := by
    show ((items.toList.drop (sIx items.size 0 lo)).take (sIx items.size items.size hi - sIx items.size 0 lo)).toArray.size ≤ sizeLine
    rw [List.size_toArray, List.length_take, List.length_drop, Array.length_toList]
    omega
  have hj : sIx items.size items.size hi ≤ items.size := sIx_le _ _ (Nat.le_refl _) hi
  obtain ⟨os, hos, hcs, hds⟩ := id hs
  have hTs : s.TypeIs (.ref sl) "slice" := ⟨os, hos, hcs⟩
  unfold getItem
  try with_reducible refine wpAny_holding ?_
  first | refine wpAny_bind (wpAny_pure ?_) | skip
  refine wpAny_bind (wpAny_sequenceKey ht.typeIs (by decide) ?_)
  refine wpAny_bind (wpAny_callSpecial?_slot (name := Str.ofString "__getitem__") ht.typeIs PyProof.Rows.slot_tuple_getitem
    (wpAny_call_entry PyProof.Rows.slot_tuple_getitem ht.typeIs entry_tuple_getitem ?_ (args_tuple_getitem _ _)))
  show wpAny _ _ (Builtin.Tuple.tupleItemsOf (.ref t) >>= _) _ _ s
  refine wpAny_bind (tupleItemsOf_ ht ?_)
  refine wpAny_bind (wpAny_typeOf hTs ?_)
  rw [if_pos (by decide)]
  refine wpAny_bind (sliceApplied_gen hs pl pu ?_)
  have hno : ¬ ((((sIx items.size 0 lo : Nat) : Int) == 0 && (1 : Int) == 1 && (sIx items.size items.size hi - sIx items.size 0 lo) == items.size) = true) := by
    intro q
    rw [Bool.and_eq_true, Bool.and_eq_true] at q
    have q1 : ((sIx items.size 0 lo : Nat) : Int) = 0 := eq_of_beq q.1.1
    have q2 : sIx items.size items.size hi - sIx items.size 0 lo = items.size := eq_of_beq q.2
    exact hw ⟨by omega, by omega⟩
  show wpAny _ _ (if (((sIx items.size 0 lo : Nat) : Int) == 0 && (1 : Int) == 1 && (sIx items.size items.size hi - sIx items.size 0 lo) == items.size) = true then _ else _) _ _ s
  rw [if_neg hno, pick_gen]
  first
    | exact wpAny_bind (m := Builtin.Tuple.tupleExact _) (wpAny_newObj_type (wpAny_pure ⟨_, rfl, wpAny_pure h⟩) htake)
    | exact wpAny_bind (m := Builtin.Tuple.tupleExact _) (wpAny_newObj_type (wpAny_bind (wpAny_pure (wpAny_pure ⟨_, rfl, wpAny_pure h⟩))) htake)
    | exact wpAny_bind (wpAny_bind (m := Builtin.Tuple.tupleExact _) (wpAny_newObj_type (wpAny_pure (wpAny_pure ⟨_, rfl, wpAny_pure h⟩)) htake))
    | exact wpAny_bind (wpAny_bind (m := Builtin.Tuple.tupleExact _) (wpAny_newObj_type (wpAny_pure ⟨_, rfl, wpAny_pure h⟩) htake))
end
end HT
namespace L2
open PySem PySem.Spec PyProof.Rows
abbrev TO := St → Hp → (Option Int → Hp → Prop) → Prop
def PO (X : Cx) (e : Option Expr) (t : TO) : Prop :=
  ∀ (pins : List (Addr × Obj)) (s : Shared) (σ : St) (H : Hp) (Q : Option Int → Hp → Prop), Inv X pins σ H s → t σ H Q →
    wpAny (model X.prog X.w) X.A (evalPart e X.env) (fun u s' => ∃ o H', Inv X pins σ H' s' ∧ IsPart u o ∧ Q o H') X.xe s
def tNoPart : TO := fun _ H Q => Q none H
def tPart (t : TE) : TO := fun σ H Q => t σ H fun x H1 => ∃ i, x = .int i ∧ Q (some i) H1
section
variable {X : Cx} {e : Expr} {te : TE} {lo hi : Option Expr} {tl th : TO} {pos p2 : Pos}
theorem po_none : PO X none tNoPart := by
  intro pins s σ H Q I h
  rw [evalPart_none]
  exact wpAny_pure ⟨none, H, I, .none, h⟩
theorem po_some (h : PE X e te) : PO X (some e) (tPart te) := by
  intro pins s σ H Q I hw
  rw [evalPart_some]
  refine thn (h pins s σ H _ I hw) fun u s1 ⟨x, H1, I1, r1, q1⟩ => ?_
  obtain ⟨i, rfl, q⟩ := q1
  obtain ⟨t, rfl⟩ := r1
  exact ⟨some i, H1, I1, .int i t, q⟩
def SlR (X : Cx) (r : V → Option Int → Option Int → Hp → VK → Prop) : Prop :=
  ∀ (pins : List (Addr × Obj)) (s : Shared) (σ : St) (H : Hp) (x : V) (v vl vu : Value) (lo hi : Option Int) (sl : Addr) (Q : VK), Inv X pins σ H s → RelV x v → s.heap.IsSliceOf sl vl vu .none → IsPart vl lo → IsPart vu hi → r x lo hi H Q →
    ∃ T id, typeLookup (.type T) "__getitem__" = pure (some (.builtin id)) ∧ s.TypeIs v T ∧ wpAny (model X.prog X.w) X.A (getItem v (.ref sl)) (EP X pins σ Q) X.xe s
theorem SlR.or {r r' : V → Option Int → Option Int → Hp → VK → Prop} (h : SlR X r) (h' : SlR X r') : SlR X (fun x lo hi H Q => r x lo hi H Q ∨ r' x lo hi H Q) := by
  intro pins s σ H x v vl vu lo hi sl Q I rx hs pl pu q
  rcases q with q | q
  · exact h pins s σ H x v vl vu lo hi sl Q I rx hs pl pu q
  · exact h' pins s σ H x v vl vu lo hi sl Q I rx hs pl pu q
def tSl (r : V → Option Int → Option Int → Hp → VK → Prop) (te : TE) (tl th : TO) : TE := fun σ H Q => te σ H fun x H1 => tl σ H1 fun l H2 => th σ H2 fun u H3 => r x l u H3 Q
theorem pe_slice {r : V → Option Int → Option Int → Hp → VK → Prop} (hr : SlR X r) (he : PE X e te) (hl : PO X lo tl) (hu : PO X hi th) : PE X (.Subscript e (.Slice lo hi none p2) pos) (tSl r te tl th) := by
  intro pins s σ H Q I h
  refine Subscript_ (thn (he pins s σ H _ I h) fun v s1 ⟨x, H1, I1, r1, q1⟩ => ?_)
  refine wpAny_Slice (thn (hl pins s1 σ H1 _ I1 q1) fun vl s2 ⟨l, H2, I2, pl, q2⟩ => thn (hu pins s2 σ H2 _ I2 q2) fun vu s3 ⟨u, H3, I3, pu, q3⟩ => ?_)
  rw [evalPart_none]
  refine wpAny_pure ?_
  have I4 : Inv X pins σ H3 { s3 with heap := s3.heap.push { cls := .type "slice", data := .fields #[vl, vu, .none] } } := I3.kept (t' := s3.toks) fun b ob q => Heap.get?_push_of_some _ q
  obtain ⟨T, id, hT, ht, hg⟩ := hr pins { s3 with heap := s3.heap.push { cls := .type "slice", data := .fields #[vl, vu, .none] } } σ H3 x v vl vu l u s3.heap.objs.size Q I4 r1 (Heap.IsSliceOf.new ..) pl pu q3
  show wpAny (model X.prog X.w) X.A (subscriptTail e (.Slice lo hi none p2) v (.ref s3.heap.objs.size)) (EP X pins σ Q) X.xe { s3 with heap := s3.heap.push { cls := .type "slice", data := .fields #[vl, vu, .none] } }
  exact tail_any (ops := [.ref s3.heap.objs.size, v]) ht hT hg (by with_unfolding_all rfl)
def cutV (xs : List V) (lo hi : Option Int) : List V := (xs.drop (HT.sIx xs.length 0 lo)).take (HT.sIx xs.length xs.length hi - HT.sIx xs.length 0 lo)
theorem cutV_length (xs : List V) (lo hi : Option Int) : (cutV xs lo hi).length ≤ xs.length := by
  unfold cutV
  rw [List.length_take, List.length_drop]
  omega
def rSlT (K : PySem.W.Frag) : V → Option Int → Option Int → Hp → VK → Prop := fun x lo hi H Q => ∃ a xs, x = .ref a ∧ SqT K H a xs ∧
  ¬ (HT.sIx xs.length 0 lo = 0 ∧ HT.sIx xs.length xs.length hi = xs.length) ∧ ∀ p, H p = none → Q (.ref p) (upd H p (.tup (cutV xs lo hi)))
theorem sl_tup : SlR X (rSlT X.K) := by
  intro pins s σ H x v vl vu lo hi sl Q I rx hs pl pu h
  obtain ⟨a, xs, rfl, hx, hw, q⟩ := h
  cases rx
  obtain ⟨its, r, ht, hz⟩ := I.tuple hx
  have hlen : its.toArray.size = xs.length := by rw [List.size_toArray]; exact r.length.symm
  refine ⟨"tuple", _, PyProof.Rows.slot_tuple_getitem.lookup, ht.typeIs, ?_⟩
  refine HT.getItem_tuple_cut ht hs pl pu (by rw [hlen]; exact hw) ?_ (by rw [hlen]; exact hz)
  rw [hlen]
  refine ⟨.ref s.heap.objs.size, _, I.laid (t' := s.toks) (o := .tup (cutV xs lo hi)) (fun b ob q => Heap.get?_push_of_some _ q) (Nat.le_refl _) ?_, rfl, q _ (I.hok.fresh (Nat.le_refl _))⟩
  exact ⟨Nat.le_trans (cutV_length xs lo hi) hz, _, (r.drop (HT.sIx xs.length 0 lo)).take (HT.sIx xs.length xs.length hi - HT.sIx xs.length 0 lo), IsTup.new _ _⟩
def rCatT (K : PySem.W.Frag) : R2 := fun x y H Q => ∃ a b xs ys, x = .ref a ∧ y = .ref b ∧ SqT K H a xs ∧ SqT K H b ys ∧ xs ≠ [] ∧ xs.length + ys.length ≤ sizeLine ∧
  (ys = [] → Q (.ref a) H) ∧ (ys ≠ [] → ∀ p, H p = none → Q (.ref p) (upd H p (.tup (xs ++ ys))))
theorem Vals.nil_iff {xs : List V} {us : List Value} (r : Vals xs us) : us = [] ↔ xs = [] := by
  cases r with
  | nil => simp
  | cons _ _ => simp
theorem op_catT : OpR X (binaryOp .Add) (rCatT X.K) := by
  intro pins s σ H x y v u Q I rx ry h
  obtain ⟨a, b, xs, ys, rfl, rfl, ha, hb, hx, hz, q1, q2⟩ := h
  cases rx
  cases ry
  obtain ⟨its, r1, p1, _⟩ := I.tuple ha
  obtain ⟨its2, r2, p2, _⟩ := I.tuple hb
  refine HT.cat_tup p1 p2 (fun z => hx (r1.nil_iff.mp z)) (fun z => ⟨.ref a, H, I, rfl, q1 (r2.nil_iff.mp z)⟩) (fun z => ?_) (by rw [← r1.length, ← r2.length]; exact hz)
  refine ⟨.ref s.heap.objs.size, _, I.laid (t' := s.toks) (o := .tup (xs ++ ys)) (fun b ob q => Heap.get?_push_of_some _ q) (Nat.le_refl _) ?_, rfl, q2 (fun w => z (r2.nil_iff.mpr w)) _ (I.hok.fresh (Nat.le_refl _))⟩
  exact ⟨by rw [List.length_append]; exact hz, _, r1.append r2, IsTup.new _ _⟩
end
end L2
namespace L2
open PySem PySem.Spec PyProof.Rows
def ixN (n : Nat) (i : Int) : Option Nat := if 0 ≤ i then (if i < n then some i.toNat else none) else if -(n : Int) ≤ i then some (i + n).toNat else none
def atI {α : Type} (xs : List α) (i : Int) : Option α := (ixN xs.length i).bind fun j => xs[j]?
theorem ixN_seq {n : Nat} {i : Int} {j : Nat} (h : ixN n i = some j) : seqIndex? i n = some j ∧ j < n ∧ -(n : Int) ≤ i ∧ i < n := by
  unfold ixN at h
  by_cases h0 : 0 ≤ i
  · rw [if_pos h0] at h
    by_cases h1 : i < n
    · rw [if_pos h1] at h
      have e : i.toNat = j := Option.some.inj h
      exact ⟨by rw [seqIndex_of h0 h1, e], by omega, by omega, h1⟩
    · rw [if_neg h1] at h; cases h
  · rw [if_neg h0] at h
    by_cases h1 : -(n : Int) ≤ i
    · rw [if_pos h1] at h
      have e : (i + n).toNat = j := Option.some.inj h
      exact ⟨by rw [seqIndex_neg (by omega) h1, e], by omega, h1, by omega⟩
    · rw [if_neg h1] at h; cases h
theorem atI_get {α : Type} {xs : List α} {i : Int} {v : α} (h : atI xs i = some v) : ∃ j, seqIndex? i xs.length = some j ∧ xs[j]? = some v ∧ j < xs.length ∧ -(xs.length : Int) ≤ i ∧ i < xs.length := by
  unfold atI at h
  cases e : ixN xs.length i with
  | none => rw [e] at h; cases h
  | some j =>
    rw [e] at h
    obtain ⟨h1, h2, h3, h4⟩ := ixN_seq e
    exact ⟨j, h1, h, h2, h3, h4⟩
def PlainIx (b : Expr) : Prop := ∀ o i, subscripted b false o i = operate [o, i] (getItem o i)
def IxR (X : Cx) (r : R2) : Prop :=
  ∀ (value slice : Expr) (pins : List (Addr × Obj)) (s : Shared) (σ : St) (H : Hp) (x y : V) (v u : Value) (Q : VK), Inv X pins σ H s → RelV x v → RelV y u → r x y H Q →
    subscripted slice false v u = operate [v, u] (getItem v u) → wpAny (model X.prog X.w) X.A (subscriptTail value slice v u) (EP X pins σ Q) X.xe s
def MtR (X : Cx) (id : String) (r : V → List V → Hp → VK → Prop) : Prop :=
  ∀ (pins : List (Addr × Obj)) (s : Shared) (σ : St) (H : Hp) (x : V) (xs : List V) (v : Value) (us : List Value) (Q : VK), Inv X pins σ H s → RelV x v → Vals xs us → r x xs H Q →
    wpAny (model X.prog X.w) X.A (call (.builtin id) (v :: us)) (EP X pins σ Q) X.xe s
section
variable {X : Cx} {a b : Expr} {ta tb : TE} {pos : Pos}
theorem IxR.or {r r' : R2} (h : IxR X r) (h' : IxR X r') : IxR X (fun x y H Q => r x y H Q ∨ r' x y H Q) := by
  intro value slice pins s σ H x y v u Q I rx ry q hs
  rcases q with q | q
  · exact h value slice pins s σ H x y v u Q I rx ry q hs
  · exact h' value slice pins s σ H x y v u Q I rx ry q hs
theorem MtR.or {id : String} {r r' : V → List V → Hp → VK → Prop} (h : MtR X id r) (h' : MtR X id r') : MtR X id (fun x xs H Q => r x xs H Q ∨ r' x xs H Q) := by
  intro pins s σ H x xs v us Q I rx rs q
  rcases q with q | q
  · exact h pins s σ H x xs v us Q I rx rs q
  · exact h' pins s σ H x xs v us Q I rx rs q
theorem pe_ix {r : R2} (hr : IxR X r) (ha : PE X a ta) (hb : PE X b tb) (hs : PlainIx b) : PE X (.Subscript a b pos) (tOp r ta tb) := by
  intro pins s σ H Q I h
  exact Subscript_ (binT ha hb I h fun v u s2 x y H2 I2 rx ry q => hr a b pins s2 σ H2 x y v u Q I2 rx ry q (hs _ _))
def rIxL (K : PySem.W.Frag) : R2 := fun x y H Q => ∃ p xs i v, x = .ref p ∧ y = .int i ∧ SqL K H p xs ∧ atI xs i = some v ∧ Q v H
def rIxT (K : PySem.W.Frag) : R2 := fun x y H Q => ∃ p xs i v, x = .ref p ∧ y = .int i ∧ SqT K H p xs ∧ atI xs i = some v ∧ Q v H
def rIxS : R2 := fun x y H Q => ∃ z i c, x = .str z ∧ y = .int i ∧ z.length ≤ sizeLine ∧ atI z.cps.toList i = some c ∧ Q (.str ⟨#[c]⟩) H
theorem ix_list : IxR X (rIxL X.K) := by
  intro value slice pins s σ H x y v u Q I rx ry h hs
  obtain ⟨p, xs, i, z, rfl, rfl, hq, he, q⟩ := h
  cases rx
  obtain ⟨t, rfl⟩ := ry
  obtain ⟨its, r, pl, hz⟩ := I.list hq
  obtain ⟨j, h1, h2, h3, h4, h5⟩ := atI_get he
  obtain ⟨w, ew, rw'⟩ := r.get h2
  have hl := r.length
  have hn := line63
  have fin : EP X pins σ Q w s := ⟨z, H, I, rw', q⟩
  by_cases h0 : 0 ≤ i
  · have hj : i.toNat = j := by
      rw [seqIndex_of h0 h5] at h1
      exact Option.some.inj h1
    exact item_listR pl.isList h0 (by omega) (by rw [hj]; simpa using ew) fin hs
  · have hj : (i + (its.toArray.size : Int)).toNat = j := by
      rw [seqIndex_neg (by omega) h4] at h1
      rw [List.size_toArray, ← hl]
      exact Option.some.inj h1
    exact subscriptTail_builtinR (x := w) pl.isList.typeIs slot_list_getitem.lookup
      (wpAny_getItem_list_neg (Q := fun r s' => r = w ∧ EP X pins σ Q r s') pl.isList (by omega) (by rw [List.size_toArray] <;> omega) (by omega) (by rw [hj]; simpa using ew) ⟨rfl, fin⟩) hs
theorem ix_tup : IxR X (rIxT X.K) := by
  intro value slice pins s σ H x y v u Q I rx ry h hs
  obtain ⟨p, xs, i, z, rfl, rfl, hq, he, q⟩ := h
  cases rx
  obtain ⟨t, rfl⟩ := ry
  obtain ⟨its, r, pl, hz⟩ := I.tuple hq
  obtain ⟨j, h1, h2, h3, h4, h5⟩ := atI_get he
  obtain ⟨w, ew, rw'⟩ := r.get h2
  have hl := r.length
  have hn := line63
  have fin : EP X pins σ Q w s := ⟨z, H, I, rw', q⟩
  exact subscriptTail_builtinR (x := w) pl.typeIs slot_tuple_getitem.lookup
    (getItem_tuple (j := j) (Q := fun r s' => r = w ∧ EP X pins σ Q r s') pl (by omega) (by omega) (by rw [List.size_toArray, ← hl]; exact h1) (by simpa using ew) ⟨rfl, fin⟩) hs
theorem ix_str : IxR X rIxS := by
  intro value slice pins s σ H x y v u Q I rx ry h hs
  obtain ⟨z, i, c, rfl, rfl, hz, he, q⟩ := h
  obtain ⟨t, rfl⟩ := rx
  obtain ⟨t', rfl⟩ := ry
  obtain ⟨j, h1, h2, h3, h4, h5⟩ := atI_get he
  have hl : z.cps.toList.length = z.length := by simp [Str.length]
  rw [hl] at h1 h4 h5
  have hn := line63
  exact tail_any (typeIs_str s z t) slot_str_getitem.lookup (getItem_str (c := c) (by
    have e1 : decide (i < -(2 ^ 63 : Int)) = false := decide_eq_false (by omega)
    have e2 : decide (i ≥ 2 ^ 63) = false := decide_eq_false (by omega)
    rw [e1, e2, Bool.or_false]) (by rw [h1]; simpa using h2) ⟨.str ⟨#[c]⟩, H, I.tok _, ⟨_, rfl⟩, q⟩) hs
def rIx (K : PySem.W.Frag) : R2 := fun x y H Q => rIxL K x y H Q ∨ rIxT K x y H Q ∨ rIxS x y H Q
theorem ix_seq : IxR X (rIx X.K) := ix_list.or (ix_tup.or ix_str)
theorem mapSeq_set (its : List Value) (n j : Nat) (u : Value) : Obj.mapSeq (·.setIfInBounds j u) { cls := .type "list", data := .seq its.toArray n } = { cls := .type "list", data := .seq (its.set j u).toArray n } := by
  simp [Obj.mapSeq]
theorem Inv.lst {pins : List (Addr × Obj)} {σ : St} {H : Hp} {s : Shared} {p : Addr} {xs : List V} (I : Inv X pins σ H s) (h : H p = some (.lst xs)) :
    ∃ (its : List Value) (n : Nat), Vals xs its ∧ s.heap.get? p = some { cls := .type "list", data := .seq its.toArray n } ∧ xs.length ≤ sizeLine := by
  obtain ⟨z, its, n, r, e⟩ := I.hok p _ h
  exact ⟨its, n, r, e, z⟩
theorem Inv.lstUpd {pins : List (Addr × Obj)} {σ : St} {H : Hp} {s : Shared} {p : Addr} {xs ys : List V} {its its' : List Value} {n n' : Nat} {f : Obj → Obj} (I : Inv X pins σ H s) (h : H p = some (.lst xs))
    (ho : s.heap.get? p = some { cls := .type "list", data := .seq its.toArray n }) (hf : f { cls := .type "list", data := .seq its.toArray n } = { cls := .type "list", data := .seq its'.toArray n' }) (r : Vals ys its') (hz : ys.length ≤ sizeLine) (t : Nat) :
    Inv X pins σ (upd H p (.lst ys)) { s with heap := s.heap.update p f, toks := t } := by
  have e : (s.heap.update p f).get? p = some { cls := .type "list", data := .seq its'.toArray n' } := by
    rw [Heap.get?_update_self f ho (by rw [hf] <;> rfl), hf]
  refine I.write (x := p) (e := p) (by rw [h]; trivial) (.inl rfl) (fun b u hb q => (Heap.get?_update_other _ _ (Ne.symm hb)).trans q) ⟨_, e⟩ ?_
  exact ⟨hz, its', n', r, e⟩
def rSetL : V → V → V → Hp → (Hp → Prop) → Prop := fun o i v H Q => ∃ p xs k j, o = .ref p ∧ i = .int k ∧ H p = some (.lst xs) ∧ ixN xs.length k = some j ∧ Q (upd H p (.lst (xs.set j v)))
theorem set_list : PSet X rSetL := by
  intro pins s σ H o i v ov iv u Q I ro ri rv h
  obtain ⟨p, xs, k, j, rfl, rfl, hp, hj, q⟩ := h
  cases ro
  obtain ⟨t, rfl⟩ := ri
  obtain ⟨its, n, r, ho, hz⟩ := I.lst hp
  obtain ⟨h1, h2, h3, h4⟩ := ixN_seq hj
  have hl := r.length
  have hn := line63
  have I' : Inv X pins σ (upd H p (.lst (xs.set j v))) { s with heap := s.heap.update p (Obj.mapSeq (·.setIfInBounds j u)) } :=
    I.lstUpd hp ho (mapSeq_set its n j u) (r.set rv j) (by rw [List.length_set]; exact hz) s.toks
  by_cases h0 : 0 ≤ k
  · have hk : k.toNat = j := by
      rw [seqIndex_of h0 h4] at h1
      exact Option.some.inj h1
    exact PySem.W.ki_setAt ho h0 (by omega) (by rw [List.size_toArray, ← hl]; exact h4) (by rw [hk]; exact ⟨_, I', q⟩)
  · have hk : (k + (its.toArray.size : Int)).toNat = j := by
      rw [seqIndex_neg (by omega) h3] at h1
      rw [List.size_toArray, ← hl]
      exact Option.some.inj h1
    exact PySem.W.ki_setBack ho (by omega) (by rw [List.size_toArray, ← hl]; exact h3) (by omega) (by rw [hk]; exact ⟨_, I', q⟩)
theorem slice_bounds (lo hi : Option Int) (n : Nat) : (sliceBounds lo hi none n).1 = ((HT.sIx n 0 lo : Nat) : Int) ∧ (sliceBounds lo hi none n).2.1 = ((HT.sIx n n hi : Nat) : Int) ∧ (sliceBounds lo hi none n).2.2 = 1 := by
  refine ⟨?_, ?_, rfl⟩
  · cases lo with
    | none => simp [sliceBounds, HT.sIx]
    | some i =>
      simp only [sliceBounds, HT.sIx, Option.getD_none, show (1 : Int) > 0 by decide, if_true]
      by_cases h : i < 0
      · simp only [h, if_true] <;> omega
      · simp only [h, if_false] <;> omega
  · cases hi with
    | none => simp [sliceBounds, HT.sIx]
    | some i =>
      simp only [sliceBounds, HT.sIx, Option.getD_none, show (1 : Int) > 0 by decide, if_true]
      by_cases h : i < 0
      · simp only [h, if_true] <;> omega
      · simp only [h, if_false] <;> omega
theorem slicePick_cut (its : List Value) (lo hi : Option Int) : slicePick its.toArray lo hi none = ((its.drop (HT.sIx its.length 0 lo)).take (HT.sIx its.length its.length hi - HT.sIx its.length 0 lo)).toArray := by
  obtain ⟨h1, h2, h3⟩ := slice_bounds lo hi its.toArray.size
  unfold slicePick
  rw [h1, h2, h3]
  simp only [sliceRange_one, pick_run, List.size_toArray] <;> rfl
def rSlL (K : PySem.W.Frag) : V → Option Int → Option Int → Hp → VK → Prop := fun x lo hi H Q => ∃ a xs, x = .ref a ∧ SqL K H a xs ∧ ∀ p, H p = none → Q (.ref p) (upd H p (.lst (cutV xs lo hi)))
theorem sl_list : SlR X (rSlL X.K) := by
  intro pins s σ H x v vl vu lo hi sl Q I rx hs pl pu h
  obtain ⟨a, xs, rfl, hx, q⟩ := h
  cases rx
  obtain ⟨its, r, ht, hz⟩ := I.list hx
  have hlen := r.length
  refine ⟨"list", _, slot_list_getitem.lookup, ht.isList.typeIs, ?_⟩
  refine wpAny_getItem_list_slice ht.isList hs pl pu .none (by simp) ?_ (by rw [List.size_toArray] <;> omega)
  rw [slicePick_cut, ← hlen]
  refine ⟨.ref s.heap.objs.size, _, I.laid (t' := s.toks) (o := .lst (cutV xs lo hi)) (fun b ob q => Heap.get?_push_of_some _ q) (Nat.le_refl _) ?_, rfl, q _ (I.hok.fresh (Nat.le_refl _))⟩
  exact ⟨Nat.le_trans (cutV_length xs lo hi) hz, _, 0, (r.drop (HT.sIx xs.length 0 lo)).take (HT.sIx xs.length xs.length hi - HT.sIx xs.length 0 lo), Heap.get?_push_size _ rfl⟩
def flatV : V → Bool
  | .non => true
  | .bl _ => true
  | .int _ => true
  | .str _ => true
  | _ => false
def eqV : V → V → Bool
  | .non, .non => true
  | .bl a, .bl b => a == b
  | .bl a, .int b => (if a then 1 else 0) == b
  | .int a, .bl b => a == (if b then 1 else 0)
  | .int a, .int b => a == b
  | .str a, .str b => a == b
  | _, _ => false
theorem eqAt_V {A : Around} {s : Shared} {y x : V} {u v : Value} (ry : RelV y u) (rx : RelV x v) (fy : flatV y = true) (fx : flatV x = true) : SeqAt.EqAt A s u v (eqV y x) := by
  cases y with
  | non =>
    cases ry
    cases x with
    | non => cases rx; exact SeqAt.EqAt.same _
    | bl b => cases rx; exact SeqAt.EqAt.none_bool b
    | int b => obtain ⟨t, rfl⟩ := rx; exact SeqAt.EqAt.none_int b t
    | str b => obtain ⟨t, rfl⟩ := rx; exact SeqAt.EqAt.none_str b t
    | _ => exact absurd (show false = true from fx) Bool.false_ne_true
  | bl a =>
    cases ry
    cases x with
    | non => cases rx; exact SeqAt.EqAt.bool_none a
    | bl b => cases rx; exact SeqAt.EqAt.bool_bool a b
    | int b => obtain ⟨t, rfl⟩ := rx; exact SeqAt.EqAt.bool_int a b t
    | str b => obtain ⟨t, rfl⟩ := rx; exact SeqAt.EqAt.bool_str a b t
    | _ => exact absurd (show false = true from fx) Bool.false_ne_true
  | int a =>
    obtain ⟨t', rfl⟩ := ry
    cases x with
    | non => cases rx; exact SeqAt.EqAt.int_none a t'
    | bl b => cases rx; exact SeqAt.EqAt.int_bool a t' b
    | int b => obtain ⟨t, rfl⟩ := rx; exact SeqAt.EqAt.int_int a t' b t
    | str b => obtain ⟨t, rfl⟩ := rx; exact SeqAt.EqAt.int_str a t' b t
    | _ => exact absurd (show false = true from fx) Bool.false_ne_true
  | str a =>
    obtain ⟨t', rfl⟩ := ry
    cases x with
    | non => cases rx; exact SeqAt.EqAt.str_none a t'
    | bl b => cases rx; exact SeqAt.EqAt.str_bool a t' b
    | int b => obtain ⟨t, rfl⟩ := rx; exact SeqAt.EqAt.str_int a t' b t
    | str b => obtain ⟨t, rfl⟩ := rx; exact SeqAt.EqAt.str_str a t' b t
    | _ => exact absurd (show false = true from fx) Bool.false_ne_true
  | _ => exact absurd (show false = true from fy) Bool.false_ne_true
def eqU (x : V) (u : Value) : Bool := match u with
  | .none => eqV .non x
  | .bool b => eqV (.bl b) x
  | .int i _ => eqV (.int i) x
  | .str z _ => eqV (.str z) x
  | _ => false
theorem eqU_of {x y : V} {u : Value} (r : RelV y u) (f : flatV y = true) : eqU x u = eqV y x := by
  cases y with
  | non => cases r; rfl
  | bl b => cases r; rfl
  | int i => obtain ⟨t, rfl⟩ := r; rfl
  | str z => obtain ⟨t, rfl⟩ := r; rfl
  | _ => exact absurd (show false = true from f) Bool.false_ne_true
theorem any_eqU {x : V} : ∀ {xs : List V} {us : List Value}, Vals xs us → xs.all flatV = true → us.any (eqU x) = xs.any fun y => eqV y x
  | _, _, .nil, _ => rfl
  | y :: xs, u :: us, .cons r t, f => by
    rw [List.all_cons, Bool.and_eq_true] at f
    rw [List.any_cons, List.any_cons, eqU_of r f.1, any_eqU t f.2]
theorem mem_eqAt {A : Around} {s : Shared} {x : V} {v : Value} (rx : RelV x v) (fx : flatV x = true) : ∀ {xs : List V} {us : List Value}, Vals xs us → xs.all flatV = true → ∀ u ∈ us, SeqAt.EqAt A s u v (eqU x u)
  | _, _, .nil, _ => fun u hu => by cases hu
  | y :: xs, u :: us, .cons r t, f => fun u' hu => by
    rw [List.all_cons, Bool.and_eq_true] at f
    rcases List.mem_cons.mp hu with rfl | hu
    · rw [eqU_of r f.1]; exact eqAt_V r rx f.1 fx
    · exact mem_eqAt rx fx t f.2 u' hu
def inV (x : V) (xs : List V) : Bool := xs.any fun y => eqV y x
def rIn (K : PySem.W.Frag) (neg : Bool) : R2 := fun x y H Q => ∃ p xs, y = .ref p ∧ (SqL K H p xs ∨ SqT K H p xs) ∧ flatV x = true ∧ xs.all flatV = true ∧ Q (.bl (if neg then !inV x xs else inV x xs)) H
theorem op_in_seq : OpR X (compareOp .In) (rIn X.K false) := by
  intro pins s σ H x y v u Q I rx ry h
  obtain ⟨p, xs, rfl, hq, fx, fs, q⟩ := h
  cases ry
  rcases hq with hq | hq
  · obtain ⟨its, r, pl, hz⟩ := I.list hq
    refine SeqAt.in_listAt (eqU x) pl.isList (fun w hw => mem_eqAt rx fx r fs w (by simpa using hw)) ⟨.bl _, H, I, rfl, ?_⟩
    rw [show its.toArray.any (eqU x) = its.any (eqU x) by simp, any_eqU r fs]
    exact q
  · obtain ⟨its, r, pl, hz⟩ := I.tuple hq
    refine SeqAt.in_tupleAt (eqU x) pl (fun w hw => mem_eqAt rx fx r fs w (by simpa using hw)) ⟨.bl _, H, I, rfl, ?_⟩
    rw [show its.toArray.any (eqU x) = its.any (eqU x) by simp, any_eqU r fs]
    exact q
theorem op_notIn_seq : OpR X (compareOp .NotIn) (rIn X.K true) := by
  intro pins s σ H x y v u Q I rx ry h
  obtain ⟨p, xs, rfl, hq, fx, fs, q⟩ := h
  cases ry
  rcases hq with hq | hq
  · obtain ⟨its, r, pl, hz⟩ := I.list hq
    refine SeqAt.notIn_listAt (eqU x) pl.isList (fun w hw => mem_eqAt rx fx r fs w (by simpa using hw)) ⟨.bl _, H, I, rfl, ?_⟩
    rw [show its.toArray.any (eqU x) = its.any (eqU x) by simp, any_eqU r fs]
    exact q
  · obtain ⟨its, r, pl, hz⟩ := I.tuple hq
    refine SeqAt.notIn_tupleAt (eqU x) pl (fun w hw => mem_eqAt rx fx r fs w (by simpa using hw)) ⟨.bl _, H, I, rfl, ?_⟩
    rw [show its.toArray.any (eqU x) = its.any (eqU x) by simp, any_eqU r fs]
    exact q
theorem op_notIn_str : OpR X (compareOp .NotIn) (fun x y H Q => ∃ i j, x = .str i ∧ y = .str j ∧ Q (.bl (!(!(Builtin.Str.occurrences j i 0 j.length 1).isEmpty))) H) := by
  intro pins s σ H x y v u Q I rx ry h
  obtain ⟨i, j, rfl, rfl, q⟩ := h
  obtain ⟨t, rfl⟩ := rx
  obtain ⟨t', rfl⟩ := ry
  exact notIn_str ⟨.bl _, H, I, rfl, q⟩
theorem CallR.or {f : Value} {r r' : List V → Hp → VK → Prop} (h : CallR X f r) (h' : CallR X f r') : CallR X f (fun xs H Q => r xs H Q ∨ r' xs H Q) := by
  intro pins s σ H xs us Q I rs q
  rcases q with q | q
  · exact h pins s σ H xs us Q I rs q
  · exact h' pins s σ H xs us Q I rs q
theorem call_tuple_of : CallR X (.type "tuple") (fun xs H Q => ∃ p ys, xs = [.ref p] ∧ ((SqL X.K H p ys ∧ ∀ l, H l = none → Q (.ref l) (upd H l (.tup ys))) ∨ (SqT X.K H p ys ∧ Q (.ref p) H))) := by
  intro pins s σ H xs us Q I r h
  obtain ⟨p, ys, rfl, h⟩ := h
  obtain ⟨u, rfl, rx⟩ := vals1 r
  cases rx
  rcases h with ⟨hq, q⟩ | ⟨hq, q⟩
  · obtain ⟨its, r', pl, hz⟩ := I.list hq
    have hlen := r'.length
    refine call_tuple_list pl.isList (fun h' kp => ?_) (by simp only [List.size_toArray] <;> omega)
    have I1 : Inv X pins σ H { s with heap := h' } := I.kept (t' := s.toks) kp
    have I2 : Inv X pins σ (upd H h'.objs.size (.tup ys)) { s with heap := h'.push { cls := .type "tuple", data := .seq its.toArray } } :=
      I1.laid (t' := s.toks) (fun b o e => Heap.get?_push_of_some _ e) (Nat.le_refl _) (show ObjOk X.prog X.w _ _ _ (.tup ys) from ⟨hz, its, r', IsTup.new _ _⟩)
    exact ⟨.ref h'.objs.size, _, I2, rfl, q _ (I1.hok.fresh (Nat.le_refl _))⟩
  · obtain ⟨its, r', pl, hz⟩ := I.tuple hq
    exact call_tuple_same pl ⟨.ref p, H, I, rfl, q⟩
def tyV (K : PySem.W.Frag) (T : String) (x : V) (H : Hp) : Prop := match x with
  | .str _ => T = "str"
  | .int _ => T = "int"
  | .ref p => (T = "list" ∧ ∃ xs, SqL K H p xs) ∨ (T = "tuple" ∧ ∃ o, K.lookup p = some o ∧ o.cls = .type "tuple" ∧ o.dict = none) ∨
      (T = "dict" ∧ ((∃ kvs, H p = some (.dK kvs)) ∨ ∃ kvs, H p = some (.dT kvs))) ∨ (T = "set" ∧ ∃ S n, H p = some (.set S n))
  | _ => False
theorem tyV_is {pins : List (Addr × Obj)} {σ : St} {H : Hp} {s : Shared} {T : String} {x : V} {v : Value} (I : Inv X pins σ H s) (r : RelV x v) (ty : tyV X.K T x H) :
    s.TypeIs v T ∧ ∀ a, v = .ref a → ∃ ob, s.heap.get? a = some ob ∧ ob.dict = none := by
  cases x with
  | str z =>
    obtain ⟨t, rfl⟩ := r
    cases (show T = "str" from ty)
    exact ⟨typeIs_str s z t, fun _ e => nomatch e⟩
  | int i =>
    obtain ⟨t, rfl⟩ := r
    cases (show T = "int" from ty)
    exact ⟨typeIs_int s i t, fun _ e => nomatch e⟩
  | ref p =>
    cases r
    rcases ty with ⟨rfl, xs, hq⟩ | ⟨rfl, o, hk, hc, hd⟩ | ⟨rfl, hk⟩ | ⟨rfl, S, n, hk⟩
    · obtain ⟨its, _, pl, _⟩ := I.list hq
      refine ⟨pl.isList.typeIs, fun a e => ?_⟩
      cases e
      obtain ⟨o, n, e, c, hd, _⟩ := pl
      exact ⟨o, e, hd⟩
    · refine ⟨⟨o, I.kIn p o hk, hc⟩, fun a e => ?_⟩
      cases e
      exact ⟨o, I.kIn _ o hk, hd⟩
    · have z : ∃ o, s.heap.get? p = some o ∧ o.ExactDict := by
        rcases hk with ⟨kvs, hk⟩ | ⟨kvs, hk⟩
        · obtain ⟨_, _, _, _, o, _, _, e, ex, _⟩ := I.hok p _ hk
          exact ⟨o, e, ex⟩
        · obtain ⟨_, _, _, _, o, _, _, e, ex, _⟩ := I.hok p _ hk
          exact ⟨o, e, ex⟩
      obtain ⟨o, e, ex⟩ := z
      refine ⟨⟨o, e, ex.1⟩, fun a e2 => ?_⟩
      cases e2
      exact ⟨o, e, ex.2.1⟩
    · obtain ⟨o, _, _, _, e, ex, _⟩ := I.hok p _ hk
      refine ⟨⟨o, e, ex.1⟩, fun a e2 => ?_⟩
      cases e2
      exact ⟨o, e, ex.2.1⟩
  | _ => exact False.elim ty
def tBM (K : PySem.W.Frag) (T : String) (r : V → List V → Hp → VK → Prop) (to : TE) (t : TA) : TE := fun σ H Q => to σ H fun x H1 => tyV K T x H1 ∧ t σ H1 fun xs H2 => r x xs H2 Q
variable {o e : Expr} {es : List Expr} {to : TE} {t : TA} {name : Str} {apos cpos : Pos} {T id : String} {r : V → List V → Hp → VK → Prop}
theorem pe_bm (pa : PlainAttrs T) (slot : Slot T name id) (hty : typeOf (.builtin id) = pure (.type "method_descriptor")) (hm : MtR X id r) (ho : PE X o to) (ha : PA X (e :: es) t)
    (hbase : attributeBase o name X.env (eval o X.env) = eval o X.env := by rfl)
    (hfew : ((backTo cpos (starEach (e :: es) X.env)).all (fun x => !x.1) && (backToKw cpos (keywordEach [] X.env)).all (fun x => x.1.isSome)
      && decide ((e :: es).length + ([] : List Keyword).length + (if ([] : List Keyword).isEmpty then 0 else 1) < 30)) = true := by rfl)
    (hline : (apos.endLine == cpos.line) = true := by rfl) (hs : starEach (e :: es) X.env = (false, eval e X.env) :: starEach es X.env := by rfl) (hplain : (backTo cpos (starEach es X.env)).any (·.1) = false := by rfl) :
    PE X (.Call (.Attribute o name apos) (e :: es) [] cpos) (tBM X.K T r to t) := by
  intro pins s σ H Q I h
  refine wpAny_Call_method_late hbase hfew hline rfl (thn (ho pins s σ H _ I h) fun v s1 ⟨x, H1, I1, r1, ty, q1⟩ => ?_)
  obtain ⟨h1, h2⟩ := tyV_is I1 r1 ty
  refine ⟨T, id, pa, slot, hty, h1, h2, ?_⟩
  have hA := ha cpos pins s1 σ H1 _ I1 q1
  rw [hs] at hA ⊢
  refine Calls.callWith_builtin (by show (false || (backTo cpos (starEach es X.env)).any (·.1)) = false; rw [hplain] <;> rfl) (Calls.evalArgs_plain ?_)
  exact thn hA fun us s2 ⟨vs, H2, I2, r2, q2⟩ => hm pins s2 σ H2 x vs v us Q I2 r1 r2 q2
end
end L2
namespace L2
open PySem PySem.Spec PyProof.Rows
def MtM (X : Cx) (id : String) (r : V → List V → Hp → VK → Prop) : Prop :=
  ∀ (pins : List (Addr × Obj)) (s : Shared) (σ : St) (H : Hp) (x : V) (xs : List V) (v : Value) (us : List Value) (Q : VK), Inv X pins σ H s → RelV x v → Vals xs us → r x xs H Q →
    wpAny (model X.prog X.w) X.A (call (.builtin id) (v :: us)) (EP X pins σ Q) X.xe s
theorem Vals.one : ∀ {x : V} {us : List Value}, Vals [x] us → ∃ u, us = [u] ∧ RelV x u
  | _, _, .cons r .nil => ⟨_, rfl, r⟩
theorem Vals.two : ∀ {x y : V} {us : List Value}, Vals [x, y] us → ∃ u v, us = [u, v] ∧ RelV x u ∧ RelV y v
  | _, _, _, .cons r (.cons q .nil) => ⟨_, _, rfl, r, q⟩
theorem Vals.zero : ∀ {us : List Value}, Vals [] us → us = []
  | _, .nil => rfl
theorem Vals.reverse {xs : List V} {us : List Value} (h : Vals xs us) : Vals xs.reverse us.reverse := by
  induction h with
  | nil => exact .nil
  | cons r t ih => rw [List.reverse_cons, List.reverse_cons]; exact Vals.append ih (.cons r .nil)
section
variable {X : Cx} {pins : List (Addr × Obj)} {σ : St} {H : Hp} {s : Shared} {l b : Addr} {xs ys zs : List V}
theorem Inv.lset {its its' : List Value} {n : Nat} {f : Array Value → Array Value} {t' : Nat} (I : Inv X pins σ H s) (hH : H l = some (.lst xs))
    (e : s.heap.get? l = some { cls := .type "list", data := .seq its.toArray n }) (hf : f its.toArray = its'.toArray) (hv : Vals ys its') (hz : ys.length ≤ sizeLine) :
    Inv X pins σ (upd H l (.lst ys)) { s with heap := s.heap.update l (Obj.mapSeq f), toks := t' } := by
  have q := PySem.IsL.update e f
  rw [hf] at q
  refine I.write (x := l) (e := l) (by rw [hH]; exact trivial) (.inl rfl) (fun b' u hb hu => (Heap.get?_update_other s.heap (Obj.mapSeq f) (Ne.symm hb)).trans hu) ⟨_, q⟩ ?_
  exact ⟨hz, its', _, hv, q⟩
theorem Inv.lnew {its : List Value} {t' : Nat} (I : Inv X pins σ H s) (hv : Vals ys its) (hz : ys.length ≤ sizeLine) :
    Inv X pins σ (upd H s.heap.objs.size (.lst ys)) { s with heap := s.heap.push { cls := .type "list", data := .seq its.toArray }, toks := t' } :=
  I.laid (fun _ _ q => Heap.get?_push_of_some _ q) (Nat.le_refl _) ⟨hz, its, 0, hv, Heap.get?_push_size _ rfl⟩
theorem Inv.fresh (I : Inv X pins σ H s) : H s.heap.objs.size = none := I.hok.fresh (Nat.le_refl _)
theorem Inv.lstM (I : Inv X pins σ H s) (hH : H l = some (.lst xs)) : xs.length ≤ sizeLine ∧ ∃ (its : List Value) (n : Nat), Vals xs its ∧ xs.length = its.length ∧ s.heap.get? l = some { cls := .type "list", data := .seq its.toArray n } := by
  obtain ⟨z, its, n, r, e⟩ := I.hok l _ hH
  exact ⟨z, its, n, r, r.length, e⟩
end
section
variable {X : Cx}
def rAppend : V → List V → Hp → VK → Prop := fun x vs H Q => ∃ l xs y, x = .ref l ∧ vs = [y] ∧ H l = some (.lst xs) ∧ xs.length < sizeLine ∧ Q .non (upd H l (.lst (xs ++ [y])))
theorem mt_append : MtM X "list.append" rAppend := by
  intro pins s σ H x vs v us Q I rx rv h
  obtain ⟨l, xs, y, rfl, rfl, hH, hz, q⟩ := h
  cases rx
  obtain ⟨u, rfl, ru⟩ := rv.one
  obtain ⟨z, its, n, r, hl, e⟩ := I.lstM hH
  refine call_meets F.slot_list_append ⟨_, e, rfl⟩ F.entry_list_append (F.args_list_append_2 _ _) (PySem.list_append l its.toArray n u (by rw [List.size_toArray]; omega)) ⟨e, ?_⟩
  refine ⟨.non, _, I.lset (its' := its ++ [u]) hH e (by simp) (r.append (.cons ru .nil)) ?_, rfl, q⟩
  rw [List.length_append, List.length_singleton]
  omega
def rCat : R2 := fun x y H Q => ∃ l b xs zs, x = .ref l ∧ y = .ref b ∧ H l = some (.lst xs) ∧ H b = some (.lst zs) ∧ xs.length + zs.length ≤ sizeLine ∧ ∀ p, H p = none → Q (.ref p) (upd H p (.lst (xs ++ zs)))
theorem op_cat : OpR X (binaryOp .Add) rCat := by
  intro pins s σ H x y v u Q I rx ry h
  obtain ⟨l, b, xs, zs, rfl, rfl, hH, hB, hz, q⟩ := h
  cases rx
  cases ry
  obtain ⟨z, its, n, r, hl, e⟩ := I.lstM hH
  obtain ⟨z2, its2, n2, r2, hl2, e2⟩ := I.lstM hB
  refine PySem.P.add_list e e2 ?_ (by rw [List.size_toArray, List.size_toArray]; omega)
  have ea : its.toArray ++ its2.toArray = (its ++ its2).toArray := by simp
  rw [ea]
  exact ⟨.ref _, _, I.lnew (t' := s.toks) (r.append r2) (by rw [List.length_append]; omega), rfl, q _ I.fresh⟩
end
section
variable {prog : Program} {w : World} {A : Around} {E : Value → Shared → Prop} {s : Shared}
end
section
variable {X : Cx}
end
end L2
namespace Att
open PySem PySem.W PySem.Calls PyProof.Rows
theorem ints_of_wellAll {P : Params} {h : Heap} : ∀ (ns : List Int) (vs : List Value), WellAll P h vs (ns.map WData.int) → IntsAre vs ns := by
  intro ns
  induction ns with
  | nil =>
    intro vs w
    rw [List.map_nil] at w
    cases w
    exact .nil
  | cons n ns ih =>
    intro vs w
    rw [List.map_cons] at w
    cases w with
    | cons a b =>
      cases a
      exact .cons _ _ (ih _ b)
theorem script_of {l : OpenLaw} {n : Nat} (hn : l.most = some n) {P : Params} {h : Heap} {args : List WData} {vals : List Value}
    (hpre : l.row.toRowW.claim.pre args = true) (hwl : WellAll P h vals args) :
    ∃ a vs ns, vals = [Value.ref a] ∧ args = [WData.list (ns.map WData.int)] ∧ h.get? a = some { cls := .type "list", data := .seq vs.toArray } ∧ IntsAre vs ns ∧ ns.length ≤ n := by
  have hsh : WShape.hasAll [] args [.list .int] = true := (pre_splitW hpre).1
  have hc : l.pre.holds [] { args := args } = true := (pre_splitW hpre).2
  obtain ⟨d, r, rfl, h1, h2⟩ := hasAllW_cons hsh
  obtain rfl := hasAllW_nil h2
  obtain ⟨xs, rfl, h3⟩ := hasW_list h1
  obtain ⟨ns, rfl⟩ := items_int h3
  have hlen : ns.length ≤ n := by
    unfold OpenLaw.pre at hc
    have h4 : (WTm.not (.lt (.lit (.int (n : Int))) (.len (.arg 0)))).holds [] { args := [.list (ns.map .int)] } = true := by
      have h4 := (holds_andW hc).1
      rw [hn] at h4
      exact h4
    have h5 := condW_of h4 (w_not (w_lt w_lit (w_len_list (w_arg rfl))))
    rw [List.length_map] at h5
    refine Nat.le_of_not_lt fun q => ?_
    have q' : (n : Int) < ((ns.length : Nat) : Int) := by omega
    first
      | (rw [decide_eq_true q'] at h5; exact absurd h5 (by decide))
      | (simp at h5; omega)
  cases hwl with
  | cons w1 w2 =>
    cases w2
    cases w1 with
    | list ho hall => exact ⟨_, _, ns, rfl, rfl, ho, ints_of_wellAll ns _ hall, hlen⟩
theorem post_true (l : OpenLaw) (args : List WData) : l.row.toRowW.claim.post args (.bool true) args = true :=
  postW_of (r := l.row.toRowW) (X := (true == true))
    (show WShape.has [] (.bool true) .bool = true by first | rfl | decide | simp [WShape.has, WShape.arms, WShape.armsAll])
    (show (WTm.eq .res (.lit (.bool true))).value [] { args := args, res := some (.bool true), after := args } = some (.bool (true == true)) from w_eq_bool (w_res rfl) w_lit) rfl
theorem attach_call {l : OpenLaw} {n : Nat} {q : Program} {loose : List Str} {XP : (Str → Option Value) → Heap → Prop} {YP : World → Heap → Prop} {d : DefRec}
    (hn : l.most = some n) (hdf : d.params.defaults = [])
    (call : ∀ (w : World) (s₀ s₁ : Shared) (mg mb : Str → Option Value) (fa : Addr) (o : Obj) (pm cd doc : Value) (a : Addr) (vs : List Value) (ns : List Int),
      Ground q loose [] XP w s₀ mg mb s₁.heap → YP w s₁.heap →
      s₁.heap.get? fa = some o → o.data = .func (docDef d.name d.params d.body d.scope pm cd doc) → s₁.heap.CodeRec cd d.name → mg d.name = some (.ref fa) →
      s₁.heap.get? a = some { cls := .type "list", data := .seq vs.toArray } → IntsAre vs ns → ns.length ≤ n → s₁.gens = #[] →
      codeAny (model l.prog w) callerA (.call (.ref fa) ⟨[.ref a], []⟩) (fun r s' => r = .ok (.ret (.bool true)) ∧ OldK s₁.heap s'.heap ∧ s'.os = s₁.os ∧ AllBare s'.gens) s₁) :
    WalkO q loose XP YP l.row.toRowW d [] (fun f vs => PySem.call f vs) := by
  intro w s₀ s₁ mg mb G Y fa o pm cd doc dV kV ho hd hcd hD hmg hg args vals as hpre hlay hrd hwl hlo
  obtain rfl : dV = .none := Dflts.none hD hdf
  obtain rfl : kV = .none := Dflts.noKw hD
  obtain ⟨a, vs, ns, rfl, rfl, hobj, hints, hlen⟩ := script_of hn hpre hwl
  refine enter_call (codeAny_mono (call w s₀ s₁ mg mb fa o pm cd doc a vs ns G Y ho (fd_plain hd) hcd hmg hobj hints hlen hg) fun r s' hq => ?_)
  obtain ⟨rfl, h2, h3, h4⟩ := hq
  exact ⟨.inl ⟨.bool true, .bool true, [], rfl, fun _ => rfl, .bool true, post_true l _, fun _ => ⟨List.Pairwise.nil, fun _ hm => (nomatch hm)⟩⟩, h2, h3, h4⟩
section
variable {prog : Program} {w : World} {A : Around} {E : Value → Shared → Prop} {s : Shared} {K : Frag}
def ledger (h : Heap) (L d : Addr) : List (Addr × Obj) := (List.range h.objs.size).filterMap fun a => if a = L ∨ a = d then none else (h.get? a).map fun o => (a, o)
end
end Att
namespace L2
open PySem PySem.Spec PyProof.Rows
theorem vals_ints : ∀ {vs : List Value} {ns : List Int}, IntsAre vs ns → Vals (ns.map V.int) vs
  | _, _, .nil => .nil
  | _, _, .cons n t h => .cons ⟨t, rfl⟩ (vals_ints h)
def Only (H : Hp) : Prop := ∀ b, H b = none ∨ ∃ o xs, H b = some (.frz o (.lst xs))
theorem law_call {P : Program} {w : World} {K : PySem.W.Frag} {mg mb : Str → Option Value} {CX : CXT} {k : Nat} {fa a : Addr} {fd : FuncData} {x : Str} {sp : Sp} {s₁ : Shared} {vs : List Value} {ns : List Int}
    (KX : K.In s₁.heap) (hns : s₁.heap.Ns mainGlobals mg) (hb : s₁.heap.Ns builtinsNs mb) (hbb : ∀ x : Str, x ≠ "__name__" → mb x = bootBuiltins x) (hlim : s₁.heap.NoLimit) (hg : s₁.gens = #[])
    (ha : s₁.heap.get? a = some { cls := .type "list", data := .seq vs.toArray }) (hi : IntsAre vs ns) (hl : ns.length ≤ sizeLine) (hr : Room k callerA)
    (F : ∀ base : Heap, K.In base → base.Ns mainGlobals mg → FnOk P w K mg base CX k fa fd [x] sp) (hbind : ∀ (s : Shared) (u : Value), BindsTo s fd ⟨[u], []⟩ [(x, u)])
    (hsp : ∀ H : Hp, Only H → SqL K H a (ns.map V.int) → sp [.ref a] H (fun v _ => v = .bl true) fun _ _ _ => False)
    (hCX : ∀ H e s', CX [] H s₁ (fun _ _ _ => False) e s' → False) :
    codeAny (model P w) callerA (.call (.ref fa) ⟨[.ref a], []⟩) (fun r s' => r = .ok (.ret (.bool true)) ∧ OldK s₁.heap s'.heap ∧ s'.os = s₁.os ∧ AllBare s'.gens) s₁ := by
  have rv := vals_ints hi
  have lenV := hi.length
  have core : ∀ H : Hp, Only H → SqL K H a (ns.map V.int) → HOk P w H s₁.heap → (∀ b, H b ≠ none → b = a) → (H a ≠ none → K.lookup a = none) →
      codeAny (model P w) callerA (.call (.ref fa) ⟨[.ref a], []⟩) (fun r s' => r = .ok (.ret (.bool true)) ∧ OldK s₁.heap s'.heap ∧ s'.os = s₁.os ∧ AllBare s'.gens) s₁ := by
    intro H hO hS hok hA hK
    have base_of : ∀ {b : Addr} {o : Obj}, s₁.heap.get? b = some o → H b = none → (hidT s₁.heap H).get? b = some o := fun e n => hidT_get e n
    have noA : ∀ {b : Addr} {o : Obj} {es : Array DictEntry} {ep : Nat}, s₁.heap.get? b = some o → o.data = .dict es ep → H b = none := fun {b o es ep} e d => by
      cases q : H b with
      | none => rfl
      | some u =>
        have e' : b = a := hA b (by rw [q]; simp)
        subst e'
        rw [ha] at e; cases e
        have d' : Data.seq vs.toArray _ = Data.dict es ep := d
        cases d'
    have nsK : ∀ {b : Addr} {m : Str → Option Value}, s₁.heap.Ns b m → (hidT s₁.heap H).Ns b m := fun {b m} ⟨o, es, ep, e, d, r⟩ => ⟨o, es, ep, base_of e (noA e d), d, r⟩
    have hKb : K.In (hidT s₁.heap H) := fun b o e => base_of (KX b o e) (by
      cases q : H b with
      | none => rfl
      | some u =>
        have e' : b = a := hA b (by rw [q]; simp)
        subst e'
        rw [hK (by rw [q]; simp)] at e; cases e)
    have hM : Mod K mg (hidT s₁.heap H) := ⟨hKb, nsK hns, ⟨mb, nsK hb, hbb⟩, let ⟨mc, h1, h2⟩ := hlim; ⟨mc, nsK h1, h2⟩⟩
    have e0 : Env0 P w K mg (hidT s₁.heap H) callerA [] s₁ H := ⟨rfl, hM, fun b o e => of_hidT e, Nat.le_of_eq (hidT_size _ _), trivial, fun b hb => absurd (show b ∈ ([] : List Addr) from hb) (by simp), hok, .of_eq hg⟩
    refine codeAny_mono ((F _ hKb (nsK hns)).run callerA [] s₁ H ⟨[.ref a], []⟩ [.ref a] [.ref a] _ _ hr e0 (hbind s₁ (.ref a)) (.cons rfl .nil) (hsp H hO hS)) fun r s' h => ?_
    cases r with
    | error e => exact (hCX H e s' h).elim
    | ok fl =>
      cases fl with
      | next => exact False.elim h
      | brk => exact False.elim h
      | cont => exact False.elim h
      | ret u =>
        obtain ⟨v, H', os, bare, un, hok', r', q⟩ := h
        have q' : v = .bl true := q
        subst q'
        obtain rfl : u = Value.bool true := r'
        refine ⟨rfl, OldK.of_keep fun b o e => ?_, os, bare⟩
        cases q : H b with
        | none => exact un.keep b o e q (by intro z; exact absurd (show b ∈ ([] : List Addr) from z) (by simp)) (by simp)
        | some u =>
          rcases hO b with z | ⟨ob, xs, z⟩
          · rw [q] at z; cases z
          · have z2 := un.frzs b ob _ z
            obtain ⟨e1, _⟩ := hok b _ z
            obtain ⟨e2, _⟩ := hok' b _ z2
            rw [e] at e1; cases e1
            exact e2
  cases hk : K.lookup a with
  | some o =>
    have e := KX a o hk
    rw [ha] at e
    cases e
    refine core (fun _ => none) (fun _ => .inl rfl) (.inr ⟨_, vs.toArray, _, hk, rfl, rfl, rfl, by rw [List.size_toArray, lenV]; exact hl, by simpa using rv⟩) (fun b u z => by have z' : (none : Option HO) = some u := z; cases z') (fun b z => absurd rfl z) fun z => absurd rfl z
  | none =>
    refine core (fun b => if b = a then some (.frz { cls := .type "list", data := .seq vs.toArray } (.lst (ns.map V.int))) else none) (fun b => ?_) (.inl (.inr ⟨{ cls := .type "list", data := .seq vs.toArray }, if_pos rfl⟩)) (fun b u z => ?_) (fun b z => ?_) fun _ => hk
    · by_cases hb : b = a
      · exact .inr ⟨_, _, if_pos hb⟩
      · exact .inl (if_neg hb)
    · by_cases hb : b = a
      · have z' := (if_pos hb).symm.trans z
        cases z'
        subst hb
        exact ⟨ha, by rw [List.length_map]; exact hl, vs, _, rv, ha⟩
      · have z' := (if_neg hb).symm.trans z
        cases z'
    · by_cases hb : b = a
      · exact hb
      · exact absurd (if_neg hb) z
end L2
namespace L2
open PySem PySem.Spec PyProof.Rows
abbrev KOf {K : PySem.W.Frag} {h : Heap} (_ : K.In h) : PySem.W.Frag := K
theorem walk_of {l : PySem.W.OpenLaw} {n k : Nat} {q : Program} {loose : List Str} {XP : (Str → Option Value) → Heap → Prop} {YP : World → Heap → Prop} {d : DefRec} {K : Params → PySem.W.Frag} {CX : World → CXT} {sp : World → Sp} {x : Str}
    (hn : l.most = some n) (hn2 : n ≤ sizeLine) (hdf : d.params.defaults = []) (hr : Room k callerA)
    (hY : ∀ (w : World) (h : Heap), YP w h → (K w.params).In h)
    (F : ∀ (w : World) (mg : Str → Option Value) (fa : Addr) (h : Heap), (K w.params).In h → h.Ns mainGlobals mg → mg d.name = some (.ref fa) →
      ∃ fd : FuncData, (∀ (s : Shared) (u : Value), BindsTo s fd ⟨[u], []⟩ [(x, u)]) ∧
        ∀ base : Heap, (K w.params).In base → base.Ns mainGlobals mg → FnOk l.prog w (K w.params) mg base (CX w) k fa fd [x] (sp w))
    (hsp : ∀ (w : World) (H : Hp) (a : Addr) (ns : List Int), ns.length ≤ n → Only H → SqL (K w.params) H a (ns.map V.int) → sp w [.ref a] H (fun v _ => v = .bl true) fun _ _ _ => False)
    (hCX : ∀ (w : World) (H : Hp) (s : Shared) (e : Value) (s' : Shared), CX w [] H s (fun _ _ _ => False) e s' → False) :
    PySem.W.WalkO q loose XP YP l.row.toRowW d [] (fun f vs => PySem.call f vs) := by
  refine Att.attach_call hn hdf fun w s₀ s₁ mg mb fa o pm cd doc a vs ns G Y ho hd hcd hmg hobj hints hlen hg => ?_
  have KX := hY w _ Y
  obtain ⟨fd, hb, hF⟩ := F w mg fa _ KX G.T.g hmg
  exact law_call KX G.T.g G.T.b G.T.builtins G.T.nolimit hg hobj hints (Nat.le_trans hlen hn2) hr hF hb (fun H hO hS => hsp w H a ns hlen hO hS) fun H e s' => hCX w H s₁ e s'
end L2
namespace L2
open PySem PySem.Spec PyProof.Rows
def defArgs (s : Stmt) : Arguments := match s with
  | .FunctionDef _ a _ _ _ _ _ _ _ _ => a
  | _ => { posonlyargs := [], args := [], vararg := none, kwonlyargs := [], kw_defaults := [], kwarg := none, defaults := [] }
def defBody (s : Stmt) : List Stmt := match s with
  | .FunctionDef _ _ b _ _ _ _ _ _ _ => b
  | _ => []
def defScope (s : Stmt) : Scope := match s with
  | .FunctionDef _ _ _ _ _ _ sc _ _ _ => sc
  | _ => { kind := .function, names := [], isGenerator := false, isCoroutine := false }
abbrev CX0 : CXT := fun _ _ _ _ _ _ => False
abbrev E0 : XK := fun _ _ _ => False
theorem pass0 {X : Cx} : Passes CX0 X E0 := fun _ _ _ _ _ _ _ h => h.elim
structure Fun (K : PySem.W.Frag) (x qual : Str) (st : Stmt) (f : Addr) (fd : FuncData) : Prop where
  ex : ∃ (oc : Value) (od : Option Addr) (kV doc pm : Value) (an : Option Addr) (cdv ct : Value) (osl : Array (Option Value)),
    fd = PySem.W.fnOf x qual (defArgs st) (defBody st) (defScope st) .none kV doc pm an cdv ct ∧ K.lookup f = some ⟨oc, od, .func fd, osl⟩ ∧ PySem.W.codeIn K cdv qual = true
  kp : PySem.W.keepIn K (.ref f) = true
section
variable {P : Program} {w : World} {K : PySem.W.Frag} {mg : Str → Option Value} {base : Heap}
theorem Fun.ok {x qual : Str} {st : Stmt} {f : Addr} {fd : FuncData} {N ps : List Str} {k : Nat} {sp : Sp} (F : Fun K x qual st f fd) (S : FnScope N ps (defScope st)) (len : ∀ vs H Q E, sp vs H Q E → vs.length = ps.length)
    (hbody : ∀ (cdv : Value) (A : Around) (outer : List Env) (s : Shared) (H : Hp) (vs : List V) (Q : VK) (E : XK), Room k (A.deeper (envOfC qual (defScope st) s.heap.objs.size f cdv)) → sp vs H Q E →
      ∃ t, PSs (cxOf CX0 P w K mg base N qual (defScope st) f cdv A outer s H E).nox (defBody st) t ∧ t { nx := fun _ H' => Q .non H', rt := Q } (start N vs) H) : FnOk P w K mg base CX0 (k + 1) f fd ps sp := by
  obtain ⟨oc, od, kV, doc, pm, an, cdv, ct, osl, rfl, lk, hcd⟩ := F.ex
  refine fn_of lk hcd S len fun A outer s H vs Q E hr hsp => ?_
  obtain ⟨t, h, q⟩ := hbody cdv A outer s H vs Q E hr hsp
  exact ⟨t, h.nox, q⟩
theorem Fun.binds {x qual : Str} {st : Stmt} {f : Addr} {fd : FuncData} {ps : List Str} (F : Fun K x qual st f fd)
    (h : ∀ (kV doc pm : Value) (an : Option Addr) (cdv ct : Value) (us : List Value), us.length = ps.length → bindArgs (PySem.W.fnOf x qual (defArgs st) (defBody st) (defScope st) .none kV doc pm an cdv ct) ⟨us, []⟩ = pure (ps.zip us)) : Binds K fd ps [] := by
  obtain ⟨oc, od, kV, doc, pm, an, cdv, ct, osl, rfl, lk, hcd⟩ := F.ex
  exact .all (h kV doc pm an cdv ct)
theorem fun_mk {x qual : Str} {st : Stmt} {f : Addr} {oc : Value} {od an : Option Addr} {osl : Array (Option Value)} {kV doc pm cdv ct : Value} (l : K.lookup f = some ⟨oc, od, .func (PySem.W.fnOf x qual (defArgs st) (defBody st) (defScope st) .none kV doc pm an cdv ct), osl⟩)
    (c : PySem.W.codeIn K cdv qual = true) (k : PySem.W.keepIn K (.ref f) = true) : Fun K x qual st f (PySem.W.fnOf x qual (defArgs st) (defBody st) (defScope st) .none kV doc pm an cdv ct) := ⟨⟨oc, od, kV, doc, pm, an, cdv, ct, osl, rfl, l, c⟩, k⟩
end
section
variable {X : Cx}
end
theorem iteF {A B : Prop} (h : B) : if false = true then A else B := by
  rw [if_neg Bool.false_ne_true]
  exact h
theorem iteT {A B : Prop} (h : A) : if true = true then A else B := by
  rw [if_pos rfl]
  exact h
def Same (H H' : Hp) : Prop := ∀ b o, H b = some o → H' b = some o
theorem Same.refl (H : Hp) : Same H H := fun _ _ h => h
theorem Same.trans {H H1 H2 : Hp} (a : Same H H1) (b : Same H1 H2) : Same H H2 := fun c o h => b c o (a c o h)
theorem Same.free {H H' : Hp} (e : Same H H') {l : Addr} (h : H' l = Option.none) : H l = Option.none := by
  cases q : H l with
  | none => rfl
  | some o =>
    rw [e l o q] at h
    cases h
theorem Same.seq {K : PySem.W.Frag} {H H' : Hp} {a : Addr} {xs : List V} (e : Same H H') (h : SqL K H a xs) : SqL K H' a xs := by
  rcases h with (h | ⟨o, h⟩) | h
  · exact .inl (.inl (e _ _ h))
  · exact .inl (.inr ⟨o, e _ _ h⟩)
  · exact .inr h
end L2
namespace FD
open PySem PySem.Spec PyProof.Rows L2
inductive Dv where
  | non | bl (b : Bool) | int (i : Int) | str (x : Str) | tup (xs : List Dv) | lst (xs : List Dv) | scr (ns : List Int) | exn (c : Nat)
def xnm : Nat → Str
  | 0 => "NoName" | 1 => "NoTable" | 2 => "NoPath" | 3 => "NoAsk" | 4 => "NoNote" | 5 => "NoJar" | 6 => "NoNumber" | 7 => "NoText" | 8 => "NoStep" | _ => "JarError"
mutual
def Rep (K : PySem.W.Frag) (H : Hp) : Dv → V → Prop
  | .non, v => v = .non
  | .bl b, v => v = .bl b
  | .int i, v => v = .int i
  | .str x, v => v = .str x
  | .tup ds, v => ∃ a xs, v = .ref a ∧ H a = some (.tup xs) ∧ Reps K H ds xs
  | .lst ds, v => ∃ a xs, v = .ref a ∧ H a = some (.lst xs) ∧ Reps K H ds xs
  | .scr ns, v => ∃ a, v = .ref a ∧ SqL K H a (ns.map V.int)
  | .exn c, v => ∃ a o u C, v = .ref a ∧ H a = some (.frz o u) ∧ o.cls = .ref C ∧ PySem.W.nsIn K mainGlobals (xnm c) = some (some (.ref C))
def Reps (K : PySem.W.Frag) (H : Hp) : List Dv → List V → Prop
  | [], vs => vs = []
  | d :: ds, vs => ∃ v us, vs = v :: us ∧ Rep K H d v ∧ Reps K H ds us
end
section
variable {K : PySem.W.Frag} {H H' : Hp}
mutual
theorem Rep.mono (e : Same H H') : ∀ (d : Dv) (v : V), Rep K H d v → Rep K H' d v
  | .non, _, h => h
  | .bl _, _, h => h
  | .int _, _, h => h
  | .str _, _, h => h
  | .tup ds, v, h => by
    obtain ⟨a, xs, r, h, q⟩ : ∃ a xs, v = .ref a ∧ H a = some (.tup xs) ∧ Reps K H ds xs := h
    exact ⟨a, xs, r, e _ _ h, Reps.mono e ds xs q⟩
  | .lst ds, v, h => by
    obtain ⟨a, xs, r, h, q⟩ : ∃ a xs, v = .ref a ∧ H a = some (.lst xs) ∧ Reps K H ds xs := h
    exact ⟨a, xs, r, e _ _ h, Reps.mono e ds xs q⟩
  | .scr ns, v, h => by
    obtain ⟨a, r, h⟩ : ∃ a, v = .ref a ∧ SqL K H a (ns.map V.int) := h
    exact ⟨a, r, e.seq h⟩
  | .exn c, v, h => by
    obtain ⟨a, o, u, C, r, h, q⟩ : ∃ a o u C, v = .ref a ∧ H a = some (.frz o u) ∧ o.cls = .ref C ∧ PySem.W.nsIn K mainGlobals (xnm c) = some (some (.ref C)) := h
    exact ⟨a, o, u, C, r, e _ _ h, q⟩
theorem Reps.mono (e : Same H H') : ∀ (ds : List Dv) (vs : List V), Reps K H ds vs → Reps K H' ds vs
  | [], _, h => h
  | d :: ds, vs, h => by
    obtain ⟨v, us, r, h, q⟩ : ∃ v us, vs = v :: us ∧ Rep K H d v ∧ Reps K H ds us := h
    exact ⟨v, us, r, Rep.mono e d v h, Reps.mono e ds us q⟩
end
theorem Reps.nil : Reps K H [] [] := rfl
theorem Reps.cons {d ds v vs} (h : Rep K H d v) (t : Reps K H ds vs) : Reps K H (d :: ds) (v :: vs) := ⟨v, vs, rfl, h, t⟩
theorem Reps.length : ∀ {ds : List Dv} {vs : List V}, Reps K H ds vs → vs.length = ds.length
  | [], vs, h => by cases (show vs = [] from h); rfl
  | d :: ds, vs, h => by
    obtain ⟨v, us, r, _, q⟩ : ∃ v us, vs = v :: us ∧ Rep K H d v ∧ Reps K H ds us := h
    subst r
    show us.length + 1 = ds.length + 1
    rw [Reps.length q]
theorem Reps.get : ∀ {ds : List Dv} {vs : List V} {i : Nat} {v : V}, Reps K H ds vs → vs[i]? = some v → ∃ d, ds[i]? = some d ∧ Rep K H d v
  | [], vs, i, v, h, e => by cases (show vs = [] from h); simp at e
  | d :: ds, vs, i, v, h, e => by
    obtain ⟨v', us, r, h', q⟩ : ∃ v us, vs = v :: us ∧ Rep K H d v ∧ Reps K H ds us := h
    subst r
    cases i with
    | zero => simp at e; subst e; exact ⟨d, rfl, h'⟩
    | succ i =>
      obtain ⟨d', e', r'⟩ := Reps.get (i := i) q (by simpa using e)
      exact ⟨d', by simpa using e', r'⟩
theorem Reps.get' : ∀ {ds : List Dv} {vs : List V} {i : Nat} {d : Dv}, Reps K H ds vs → ds[i]? = some d → ∃ v, vs[i]? = some v ∧ Rep K H d v
  | [], vs, i, v, h, e => by simp at e
  | d :: ds, vs, i, d0, h, e => by
    obtain ⟨v', us, r, h', q⟩ : ∃ v us, vs = v :: us ∧ Rep K H d v ∧ Reps K H ds us := h
    subst r
    cases i with
    | zero => simp at e; subst e; exact ⟨v', rfl, h'⟩
    | succ i =>
      obtain ⟨d', e', r'⟩ := Reps.get' (i := i) q (by simpa using e)
      exact ⟨d', by simpa using e', r'⟩
theorem Reps.append : ∀ {ds es : List Dv} {vs us : List V}, Reps K H ds vs → Reps K H es us → Reps K H (ds ++ es) (vs ++ us)
  | [], es, vs, us, h, q => by cases (show vs = [] from h); exact q
  | d :: ds, es, vs, us, h, q => by
    obtain ⟨v', vs', r, h', t⟩ : ∃ v us, vs = v :: us ∧ Rep K H d v ∧ Reps K H ds us := h
    subst r
    exact ⟨v', vs' ++ us, rfl, h', Reps.append t q⟩
theorem Reps.take : ∀ {ds : List Dv} {vs : List V} (n : Nat), Reps K H ds vs → Reps K H (ds.take n) (vs.take n)
  | ds, vs, 0, _ => by simp [Reps]
  | [], vs, n + 1, h => by cases (show vs = [] from h); exact rfl
  | d :: ds, vs, n + 1, h => by
    obtain ⟨v', vs', r, h', t⟩ : ∃ v us, vs = v :: us ∧ Rep K H d v ∧ Reps K H ds us := h
    subst r
    exact ⟨v', vs'.take n, rfl, h', Reps.take n t⟩
theorem Reps.drop : ∀ {ds : List Dv} {vs : List V} (n : Nat), Reps K H ds vs → Reps K H (ds.drop n) (vs.drop n)
  | ds, vs, 0, h => h
  | [], vs, n + 1, h => by cases (show vs = [] from h); exact rfl
  | d :: ds, vs, n + 1, h => by
    obtain ⟨v', vs', r, h', t⟩ : ∃ v us, vs = v :: us ∧ Rep K H d v ∧ Reps K H ds us := h
    subst r
    exact Reps.drop n t
theorem Rep.lstE {ds : List Dv} {v : V} (h : Rep K H (.lst ds) v) : ∃ a xs, v = .ref a ∧ H a = some (.lst xs) ∧ Reps K H ds xs := h
theorem Rep.tupE {ds : List Dv} {v : V} (h : Rep K H (.tup ds) v) : ∃ a xs, v = .ref a ∧ H a = some (.tup xs) ∧ Reps K H ds xs := h
theorem Rep.exnE {c : Nat} {v : V} (h : Rep K H (.exn c) v) : ∃ a o u C, v = .ref a ∧ H a = some (.frz o u) ∧ o.cls = .ref C ∧ PySem.W.nsIn K mainGlobals (xnm c) = some (some (.ref C)) := h
theorem Rep.scrE {ns : List Int} {v : V} (h : Rep K H (.scr ns) v) : ∃ a, v = .ref a ∧ SqL K H a (ns.map V.int) := h
end
theorem same_new {H : Hp} {p : Addr} (h : H p = none) (o : HO) : Same H (upd H p o) := fun b u q => by rw [upd_ne (ne_of_none q h)]; exact q
abbrev Ev := List (Option Dv)
structure Envs (K : PySem.W.Frag) (H : Hp) (σ : L2.St) (ρ : Ev) : Prop where
  len : σ.length = ρ.length
  at' : ∀ (i : Nat) (d : Dv), ρ[i]? = some (some d) → ∃ v, σ[i]? = some (some v) ∧ Rep K H d v
theorem Envs.mono {K : PySem.W.Frag} {H H' : Hp} {σ : L2.St} {ρ : Ev} (E : Envs K H σ ρ) (e : Same H H') : Envs K H' σ ρ :=
  ⟨E.len, fun i d h => let ⟨v, h1, h2⟩ := E.at' i d h; ⟨v, h1, Rep.mono e d v h2⟩⟩
theorem Envs.set {K : PySem.W.Frag} {H : Hp} {σ : L2.St} {ρ : Ev} {i : Nat} {d : Dv} {v : V} (E : Envs K H σ ρ) (r : Rep K H d v) : Envs K H (σ.set i (some v)) (ρ.set i (some d)) := by
  refine ⟨by rw [List.length_set, List.length_set]; exact E.len, fun j d' h => ?_⟩
  by_cases hj : i = j
  · subst hj
    by_cases hl : i < ρ.length
    · rw [List.getElem?_set_self hl] at h
      cases h
      exact ⟨v, by rw [List.getElem?_set_self (by rw [E.len]; exact hl)], r⟩
    · rw [List.getElem?_eq_none (by rw [List.length_set]; omega)] at h
      cases h
  · rw [List.getElem?_set_ne hj] at h
    rw [List.getElem?_set_ne hj]
    exact E.at' j d' h
def fgt (js : List Nat) (ρ : Ev) : Ev := js.foldl (fun r j => r.set j none) ρ
theorem Envs.fgt1 {K : PySem.W.Frag} {H : Hp} {σ : L2.St} {ρ : Ev} (j : Nat) (E : Envs K H σ ρ) : Envs K H σ (ρ.set j none) := by
  refine ⟨by rw [List.length_set]; exact E.len, fun i d h => ?_⟩
  by_cases hj : j = i
  · subst hj
    by_cases hl : j < ρ.length
    · rw [List.getElem?_set_self hl] at h
      cases h
    · rw [List.getElem?_eq_none (by rw [List.length_set]; omega)] at h
      cases h
  · rw [List.getElem?_set_ne hj] at h
    exact E.at' i d h
theorem Envs.fgt {K : PySem.W.Frag} {H : Hp} {σ : L2.St} : ∀ (js : List Nat) {ρ : Ev}, Envs K H σ ρ → Envs K H σ (fgt js ρ)
  | [], _, E => E
  | j :: js, _, E => Envs.fgt js (E.fgt1 j)
inductive Rs (α : Type) where
  | ok (a : α)
  | exc (c : Nat)
inductive Fl where
  | nx (ρ : Ev)
  | rt (d : Dv)
  | exc (c : Nat)
def Fly (N : Addr → Prop) (H : Hp) (e : Addr) (cls : Value) (h : Heap) : Prop := H e = none ∧ N e ∧ ∃ oe vs a0, h.get? e = some oe ∧ oe.cls = cls ∧ oe.data = .fields vs ∧ vs[0]? = some a0 ∧
  (vs[1]? = some .none ∨ ∃ T oT ts, vs[1]? = some (.ref T) ∧ T ≠ e ∧ H T = none ∧ N T ∧ h.get? T = some oT ∧ oT.data = .fields ts ∧ ts[3]? = some .none)
def newX (X : Cx) (a : Addr) : Prop := X.s₀.heap.get? a = none ∧ ∀ p ∈ X.pn, p.1 ≠ a
def ExcAt (X : Cx) (H : Hp) (c : Nat) (e : Value) (s : Shared) : Prop := ∃ a C, e = .ref a ∧ PySem.W.nsIn X.K mainGlobals (xnm c) = some (some (.ref C)) ∧ Fly (newX X) H a (.ref C) s.heap
def XW (X : Cx) (c : Nat) (H : Hp) : Prop := ∀ pins σ H' s e, Same H H' → Inv X pins σ H' s → ExcAt X H' c e s → X.xe e s
theorem XW.mono {X : Cx} {c : Nat} {H H' : Hp} (h : XW X c H) (e : Same H H') : XW X c H' := fun pins σ H1 s x e1 I q => h pins σ H1 s x (e.trans e1) I q
def Out (X : Cx) (H : Hp) (o : Option (Rs Dv)) (Q : VK) : Prop := match o with
  | none => False
  | some (.exc c) => XW X c H
  | some (.ok d) => ∀ v H', Same H H' → Rep X.K H' d v → Q v H'
def OutB (X : Cx) (H : Hp) (o : Option (Rs Bool)) (Q : Bool → Hp → Prop) : Prop := match o with
  | none => False
  | some (.exc c) => XW X c H
  | some (.ok d) => ∀ H', Same H H' → Q d H'
def OutA (X : Cx) (H : Hp) (o : Option (Rs (List Dv))) (Q : List V → Hp → Prop) : Prop := match o with
  | none => False
  | some (.exc c) => XW X c H
  | some (.ok ds) => ∀ vs H', Same H H' → Reps X.K H' ds vs → Q vs H'
def OutS (X : Cx) (H : Hp) (o : Option Fl) (D : Ends) : Prop := match o with
  | none => False
  | some (.exc c) => XW X c H
  | some (.rt d) => ∀ v H', Same H H' → Rep X.K H' d v → D.rt v H'
  | some (.nx ρ) => ∀ σ H', Same H H' → Envs X.K H' σ ρ → D.nx σ H'
def bnd {α β : Type} (o : Option (Rs α)) (k : α → Option (Rs β)) : Option (Rs β) := match o with
  | none => none
  | some (.exc c) => some (.exc c)
  | some (.ok a) => k a
def bndS {α : Type} (o : Option (Rs α)) (k : α → Option Fl) : Option Fl := match o with
  | none => none
  | some (.exc c) => some (.exc c)
  | some (.ok a) => k a
def sq (o : Option Fl) (k : Ev → Option Fl) : Option Fl := match o with
  | some (.nx ρ) => k ρ
  | o => o
section
variable {X : Cx} {H H' : Hp} {Q : VK} {QB : Bool → Hp → Prop} {QA : List V → Hp → Prop} {D : Ends}
theorem Out.mono (e : Same H H') : ∀ {o : Option (Rs Dv)}, Out X H o Q → Out X H' o Q
  | none, h => h
  | some (.exc _), h => XW.mono h e
  | some (.ok _), h => fun v H1 e1 r => h v H1 (e.trans e1) r
theorem OutB.mono (e : Same H H') : ∀ {o : Option (Rs Bool)}, OutB X H o QB → OutB X H' o QB
  | none, h => h
  | some (.exc _), h => XW.mono h e
  | some (.ok _), h => fun H1 e1 => h H1 (e.trans e1)
theorem OutA.mono (e : Same H H') : ∀ {o : Option (Rs (List Dv))}, OutA X H o QA → OutA X H' o QA
  | none, h => h
  | some (.exc _), h => XW.mono h e
  | some (.ok _), h => fun v H1 e1 r => h v H1 (e.trans e1) r
theorem OutS.mono (e : Same H H') : ∀ {o : Option Fl}, OutS X H o D → OutS X H' o D
  | none, h => h
  | some (.exc _), h => XW.mono h e
  | some (.rt _), h => fun v H1 e1 r => h v H1 (e.trans e1) r
  | some (.nx _), h => fun v H1 e1 r => h v H1 (e.trans e1) r
theorem Out.bind {o : Option (Rs Dv)} {k : Dv → Option (Rs Dv)} {P : VK} (h : Out X H (bnd o k) Q) (hp : ∀ d v H', Same H H' → Rep X.K H' d v → Out X H' (k d) Q → P v H') : Out X H o P := by
  match o, h with
  | some (.exc _), h => exact h
  | some (.ok d), h => exact fun v H1 e r => hp d v H1 e r (Out.mono e h)
theorem Out.bindB {o : Option (Rs Dv)} {k : Dv → Option (Rs Bool)} {P : VK} (h : OutB X H (bnd o k) QB) (hp : ∀ d v H', Same H H' → Rep X.K H' d v → OutB X H' (k d) QB → P v H') : Out X H o P := by
  match o, h with
  | some (.exc _), h => exact h
  | some (.ok d), h => exact fun v H1 e r => hp d v H1 e r (OutB.mono e h)
theorem Out.bindA {o : Option (Rs Dv)} {k : Dv → Option (Rs (List Dv))} {P : VK} (h : OutA X H (bnd o k) QA) (hp : ∀ d v H', Same H H' → Rep X.K H' d v → OutA X H' (k d) QA → P v H') : Out X H o P := by
  match o, h with
  | some (.exc _), h => exact h
  | some (.ok d), h => exact fun v H1 e r => hp d v H1 e r (OutA.mono e h)
theorem Out.bindS {o : Option (Rs Dv)} {k : Dv → Option Fl} {P : VK} (h : OutS X H (bndS o k) D) (hp : ∀ d v H', Same H H' → Rep X.K H' d v → OutS X H' (k d) D → P v H') : Out X H o P := by
  match o, h with
  | some (.exc _), h => exact h
  | some (.ok d), h => exact fun v H1 e r => hp d v H1 e r (OutS.mono e h)
theorem OutB.bind {o : Option (Rs Bool)} {k : Bool → Option (Rs Dv)} {P : Bool → Hp → Prop} (h : Out X H (bnd o k) Q) (hp : ∀ b H', Same H H' → Out X H' (k b) Q → P b H') : OutB X H o P := by
  match o, h with
  | some (.exc _), h => exact h
  | some (.ok d), h => exact fun H1 e => hp d H1 e (Out.mono e h)
theorem OutB.bindB {o : Option (Rs Bool)} {k : Bool → Option (Rs Bool)} {P : Bool → Hp → Prop} (h : OutB X H (bnd o k) QB) (hp : ∀ b H', Same H H' → OutB X H' (k b) QB → P b H') : OutB X H o P := by
  match o, h with
  | some (.exc _), h => exact h
  | some (.ok d), h => exact fun H1 e => hp d H1 e (OutB.mono e h)
theorem OutB.bindS {o : Option (Rs Bool)} {k : Bool → Option Fl} {P : Bool → Hp → Prop} (h : OutS X H (bndS o k) D) (hp : ∀ b H', Same H H' → OutS X H' (k b) D → P b H') : OutB X H o P := by
  match o, h with
  | some (.exc _), h => exact h
  | some (.ok d), h => exact fun H1 e => hp d H1 e (OutS.mono e h)
theorem OutA.bind {o : Option (Rs (List Dv))} {k : List Dv → Option (Rs Dv)} {P : List V → Hp → Prop} (h : Out X H (bnd o k) Q) (hp : ∀ ds vs H', Same H H' → Reps X.K H' ds vs → Out X H' (k ds) Q → P vs H') : OutA X H o P := by
  match o, h with
  | some (.exc _), h => exact h
  | some (.ok d), h => exact fun v H1 e r => hp d v H1 e r (Out.mono e h)
theorem OutA.bindA {o : Option (Rs (List Dv))} {k : List Dv → Option (Rs (List Dv))} {P : List V → Hp → Prop} (h : OutA X H (bnd o k) QA) (hp : ∀ ds vs H', Same H H' → Reps X.K H' ds vs → OutA X H' (k ds) QA → P vs H') : OutA X H o P := by
  match o, h with
  | some (.exc _), h => exact h
  | some (.ok d), h => exact fun v H1 e r => hp d v H1 e r (OutA.mono e h)
end
abbrev FnE := Ev → Option (Rs Dv)
abbrev FnB := Ev → Option (Rs Bool)
abbrev FnA := Ev → Option (Rs (List Dv))
abbrev FnS := Ev → Option Fl
def tF (X : Cx) (f : FnE) : TE := fun σ H Q => ∃ ρ, Envs X.K H σ ρ ∧ Out X H (f ρ) Q
def tT (X : Cx) (f : FnB) : TT := fun σ H Q => ∃ ρ, Envs X.K H σ ρ ∧ OutB X H (f ρ) Q
def tA (X : Cx) (f : FnA) : TA := fun σ H Q => ∃ ρ, Envs X.K H σ ρ ∧ OutA X H (f ρ) Q
def tS (X : Cx) (f : FnS) : TS := fun D σ H => ∃ ρ, Envs X.K H σ ρ ∧ OutS X H (f ρ) D
structure FE (X : Cx) (e : Expr) (f : FnE) : Prop where
  h : PE X e (tF X f)
structure FT (X : Cx) (e : Expr) (f : FnB) : Prop where
  h : PT X e (tT X f)
structure FW (X : Cx) (e : Expr) (f : FnB) : Prop where
  h : PW X e (tT X f)
structure FA (X : Cx) (es : List Expr) (f : FnA) : Prop where
  h : PA X es (tA X f)
structure FS (X : Cx) (st : Stmt) (f : FnS) : Prop where
  h : PS X st (tS X f)
structure FSs (X : Cx) (st : List Stmt) (f : FnS) : Prop where
  h : PSs X st (tS X f)
section
variable {X : Cx} {a b c e : Expr} {es : List Expr} {fa fb fc : FnE} {pos : Pos}
theorem fe_of {t : TE} {f : FnE} (h : PE X e t) (w : ∀ σ H Q ρ, Envs X.K H σ ρ → Out X H (f ρ) Q → t σ H Q) : FE X e f :=
  ⟨fun pins s σ H Q I ⟨ρ, E, o⟩ => h pins s σ H Q I (w σ H Q ρ E o)⟩
theorem ft_of {t : TT} {f : FnB} (h : PT X e t) (w : ∀ σ H Q ρ, Envs X.K H σ ρ → OutB X H (f ρ) Q → t σ H Q) : FT X e f :=
  ⟨fun pins s σ H Q I ⟨ρ, E, o⟩ => h pins s σ H Q I (w σ H Q ρ E o)⟩
theorem fw_of {t : TT} {f : FnB} (h : PW X e t) (w : ∀ σ H Q ρ, Envs X.K H σ ρ → OutB X H (f ρ) Q → t σ H Q) : FW X e f :=
  ⟨fun wh pins s σ H Q I ⟨ρ, E, o⟩ => h wh pins s σ H Q I (w σ H Q ρ E o)⟩
theorem fs_of {st : Stmt} {t : TS} {f : FnS} (h : PS X st t) (w : ∀ D σ H ρ, Envs X.K H σ ρ → OutS X H (f ρ) D → t D σ H) : FS X st f :=
  ⟨fun pins s σ H D I ⟨ρ, E, o⟩ => h pins s σ H D I (w D σ H ρ E o)⟩
theorem fss_of {st : List Stmt} {t : TS} {f : FnS} (h : PSs X st t) (w : ∀ D σ H ρ, Envs X.K H σ ρ → OutS X H (f ρ) D → t D σ H) : FSs X st f :=
  ⟨fun pins s σ H D I ⟨ρ, E, o⟩ => h pins s σ H D I (w D σ H ρ E o)⟩
theorem FW.ft {f : FnB} (h : FW X e f) : FT X e f := ⟨h.h _⟩
def fVar (i : Nat) : FnE := fun ρ => match ρ[i]? with
  | some (some d) => some (.ok d)
  | _ => none
def fC (d : Dv) : FnE := fun _ => some (.ok d)
theorem fe_pv (i : Nat) (h : PE X e (tVar i)) : FE X e (fVar i) := fe_of h fun σ H Q ρ E o => by
  unfold fVar at o
  split at o
  · rename_i d hd
    obtain ⟨v, h1, h2⟩ := E.at' i d hd
    exact ⟨v, h1, o v H (.refl H) h2⟩
  · exact o.elim
theorem glb {x : Str} (h : X.env.kindOf x = some .globalImplicit) : Gl X x := h
theorem fe_lv (i : Nat) {x : Str} (hN : X.N[i]? = some x := by kernel_rfl) (hv : X.env.scope.names.lookup x = some .local := by kernel_rfl) (hd : (x == ("__debug__" : Str)) = false := by kernel_rfl) (hcd : (x == ("__classdict__" : Str)) = false := by kernel_rfl) : FE X (.Name x pos) (fVar i) := fe_pv i (pe_var hN (.inl hv) hd hcd)
theorem fe_cv (i : Nat) {x : Str} (hN : X.N[i]? = some x := by kernel_rfl) (hv : X.env.scope.names.lookup x = some .cell := by kernel_rfl) (hd : (x == ("__debug__" : Str)) = false := by kernel_rfl) (hcd : (x == ("__classdict__" : Str)) = false := by kernel_rfl) : FE X (.Name x pos) (fVar i) := fe_pv i (pe_var hN (.inr (.inl hv)) hd hcd)
theorem fe_c {d : Dv} {v : V} (h : PE X e (tC v)) (r : ∀ K H, Rep K H d v) : FE X e (fC d) := fe_of h fun _ H _ _ _ o => o v H (.refl H) (r X.K H)
theorem fe_int {i j} : FE X (.Constant (.int i) j pos) (fC (.int i)) := fe_c pe_int fun _ _ => rfl
theorem fe_bl {b j} : FE X (.Constant (.bool b) j pos) (fC (.bl b)) := fe_c pe_bl fun _ _ => rfl
theorem fe_non {j} : FE X (.Constant .none j pos) (fC .non) := fe_c pe_non fun _ _ => rfl
theorem fe_str {x j} : FE X (.Constant (.str x) j pos) (fC (.str x)) := fe_c pe_str fun _ _ => rfl
theorem fe_gint {x : Str} {i : Int} {t : Tok} (hg : Gl X x) (hm : X.mg x = some (.int i t)) (hd : (x == ("__debug__" : Str)) = false := by kernel_rfl) : FE X (.Name x pos) (fC (.int i)) := fe_c (pe_glob (v := .int i) hg hm ⟨t, rfl⟩ hd) fun _ _ => rfl
theorem fe_gstr {x : Str} {i : Str} {t : Tok} (hg : Gl X x) (hm : X.mg x = some (.str i t)) (hd : (x == ("__debug__" : Str)) = false := by kernel_rfl) : FE X (.Name x pos) (fC (.str i)) := fe_c (pe_glob (v := .str i) hg hm ⟨t, rfl⟩ hd) fun _ _ => rfl
def f2 (g : Dv → Dv → Option (Rs Dv)) (fa fb : FnE) : FnE := fun ρ => bnd (fa ρ) fun x => bnd (fb ρ) fun y => g x y
def GOp (X : Cx) (r : R2) (g : Dv → Dv → Option (Rs Dv)) : Prop := ∀ dx dy x y H Q, Rep X.K H dx x → Rep X.K H dy y → Out X H (g dx dy) Q → r x y H Q
theorem two {r : R2} {g : Dv → Dv → Option (Rs Dv)} (hg : GOp X r g) {σ : L2.St} {H : Hp} {Q : VK} {ρ : Ev} (E : Envs X.K H σ ρ) (o : Out X H (f2 g fa fb ρ) Q) : tOp r (tF X fa) (tF X fb) σ H Q :=
  ⟨ρ, E, Out.bind o fun dx x H1 e1 rx o1 => ⟨ρ, E.mono e1, Out.bind o1 fun dy y H2 e2 ry o2 => hg dx dy x y H2 Q (Rep.mono e2 dx x rx) ry o2⟩⟩
theorem fe_op {op : Operator} {r : R2} {g : Dv → Dv → Option (Rs Dv)} (ho : OpR X (binaryOp op) r) (hg : GOp X r g) (ha : FE X a fa) (hb : FE X b fb) : FE X (.BinOp a op b pos) (f2 g fa fb) :=
  fe_of (pe_op ho ha.h hb.h) fun _ _ _ _ E o => two hg E o
theorem fe_cmp {op : CmpOp} {r : R2} {g : Dv → Dv → Option (Rs Dv)} (ho : OpR X (compareOp op) r) (hg : GOp X r g) (ha : FE X a fa) (hb : FE X b fb) (hm : behindInMarks op b = false) : FE X (.Compare a [op] [b] pos) (f2 g fa fb) :=
  fe_of (pe_cmpR ho ha.h hb.h hm) fun _ _ _ _ E o => two hg E o
def toB : Dv → Option (Rs Bool)
  | .bl b => some (.ok b)
  | _ => none
def fB (f : FnE) : FnB := fun ρ => bnd (f ρ) toB
theorem outB_toB {H : Hp} {d : Dv} {v : V} {QB : Bool → Hp → Prop} (r : Rep X.K H d v) (o : OutB X H (toB d) QB) : ∃ k, v = .bl k ∧ QB k H := by
  cases d with
  | bl b => exact ⟨b, r, o H (.refl H)⟩
  | _ => exact o.elim
theorem ft_cmp {op : CmpOp} {r : R2} {g : Dv → Dv → Option (Rs Dv)} (ho : OpR X (compareOp op) r) (hg : GOp X r g) (ha : FE X a fa) (hb : FE X b fb) (hm : behindInMarks op b = false) : FT X (.Compare a [op] [b] pos) (fB (f2 g fa fb)) :=
  ft_of (pt_cmpR ho ha.h hb.h hm) fun σ H Q ρ E o => by
    show tOp r (tF X fa) (tF X fb) σ H _
    refine two hg E ?_
    exact Out.bindB o fun d v H' e r o' => outB_toB r o'
theorem ft_val (ha : FE X a fa) (he : ∀ whole, isTrue a X.env whole = (do let v ← whole; standAt a.pos; holding [v] (truthy v)) := by intro _; kernel_rfl) : FT X a (fB fa) :=
  ft_of (pt_val ha.h he) fun σ H Q ρ E o => ⟨ρ, E, Out.bindB o fun d v H' e r o' => outB_toB r o'⟩
def bAnd (f g : FnB) : FnB := fun ρ => bnd (f ρ) fun k => if k then g ρ else some (.ok false)
def bOr (f g : FnB) : FnB := fun ρ => bnd (f ρ) fun k => if k then some (.ok true) else g ρ
def bNot (f : FnB) : FnB := fun ρ => bnd (f ρ) fun k => some (.ok (!k))
variable {ga gb : FnB} {rest : List Expr}
theorem fw_and1 (ha : FT X a ga) : FW X (.BoolOp .And [a] pos) ga := ⟨pw_and1 ha.h⟩
theorem fw_or1 (ha : FT X a ga) : FW X (.BoolOp .Or [a] pos) ga := ⟨pw_or1 ha.h⟩
theorem fw_and (ha : FT X a ga) (hb : FW X (.BoolOp .And (b :: rest) pos) gb) : FW X (.BoolOp .And (a :: b :: rest) pos) (bAnd ga gb) :=
  fw_of (pw_and ha.h hb.h) fun σ H Q ρ E o => ⟨ρ, E, OutB.bindB o fun k H1 e o' => by
    cases k with
    | true => exact iteT ⟨ρ, E.mono e, o'⟩
    | false => exact iteF (o' H1 (.refl H1))⟩
theorem fw_or (ha : FT X a ga) (hb : FW X (.BoolOp .Or (b :: rest) pos) gb) : FW X (.BoolOp .Or (a :: b :: rest) pos) (bOr ga gb) :=
  fw_of (pw_or ha.h hb.h) fun σ H Q ρ E o => ⟨ρ, E, OutB.bindB o fun k H1 e o' => by
    cases k with
    | true => exact iteT (o' H1 (.refl H1))
    | false => exact iteF ⟨ρ, E.mono e, o'⟩⟩
theorem ft_not (ha : FT X a ga) : FT X (.UnaryOp .Not a pos) (bNot ga) :=
  ft_of (pt_not ha.h) fun σ H Q ρ E o => ⟨ρ, E, OutB.bindB o fun k H1 e o' => o' H1 (.refl H1)⟩
def vAnd (f g : FnE) : FnE := fun ρ => bnd (f ρ) fun x => bnd (toB x) fun k => if k then g ρ else some (.ok (.bl false))
def vOr (f g : FnE) : FnE := fun ρ => bnd (f ρ) fun x => bnd (toB x) fun k => if k then some (.ok (.bl true)) else g ρ
def vNot (f : FnE) : FnE := fun ρ => bnd (f ρ) fun x => bnd (toB x) fun k => some (.ok (.bl (!k)))
theorem out_toB {H : Hp} {d : Dv} {v : V} {k : Bool → Option (Rs Dv)} {Q : VK} (r : Rep X.K H d v) (o : Out X H (bnd (toB d) k) Q) : ∃ b, v = .bl b ∧ Out X H (k b) Q := by
  cases d with
  | bl b => exact ⟨b, r, o⟩
  | _ => exact o.elim
theorem fe_one {op} (ha : FE X a fa) : FE X (.BoolOp op [a] pos) fa := ⟨pe_one ha.h⟩
theorem fe_and (ha : FE X a fa) (hb : FE X (.BoolOp .And (b :: rest) pos) fb) : FE X (.BoolOp .And (a :: b :: rest) pos) (vAnd fa fb) :=
  fe_of (pe_and ha.h hb.h) fun σ H Q ρ E o => ⟨ρ, E, Out.bind o fun d v H1 e r o' => by
    obtain ⟨k, rfl, o2⟩ := out_toB r o'
    refine ⟨k, rfl, ?_⟩
    cases k with
    | true => exact iteT ⟨ρ, E.mono e, o2⟩
    | false => exact iteF (o2 (.bl false) H1 (.refl H1) rfl)⟩
theorem fe_or (ha : FE X a fa) (hb : FE X (.BoolOp .Or (b :: rest) pos) fb) : FE X (.BoolOp .Or (a :: b :: rest) pos) (vOr fa fb) :=
  fe_of (pe_or ha.h hb.h) fun σ H Q ρ E o => ⟨ρ, E, Out.bind o fun d v H1 e r o' => by
    obtain ⟨k, rfl, o2⟩ := out_toB r o'
    refine ⟨k, rfl, ?_⟩
    cases k with
    | true => exact iteT (o2 (.bl true) H1 (.refl H1) rfl)
    | false => exact iteF ⟨ρ, E.mono e, o2⟩⟩
theorem fe_not (ha : FE X a fa) : FE X (.UnaryOp .Not a pos) (vNot fa) :=
  fe_of (pe_not ha.h) fun σ H Q ρ E o => ⟨ρ, E, Out.bind o fun d v H1 e r o' => by
    obtain ⟨k, rfl, o2⟩ := out_toB r o'
    exact ⟨k, rfl, o2 (.bl (!k)) H1 (.refl H1) rfl⟩⟩
def fIf (c : FnB) (f g : FnE) : FnE := fun ρ => bnd (c ρ) fun k => if k then f ρ else g ρ
theorem fe_if (hc : FT X c ga) (ha : FE X a fa) (hb : FE X b fb) : FE X (.IfExp c a b pos) (fIf ga fa fb) :=
  fe_of (pe_ifExp hc.h ha.h hb.h) fun σ H Q ρ E o => ⟨ρ, E, OutB.bind o fun k H1 e o' => by
    cases k with
    | true => exact iteT ⟨ρ, E.mono e, o'⟩
    | false => exact iteF ⟨ρ, E.mono e, o'⟩⟩
def aNil : FnA := fun _ => some (.ok [])
def aCons (f : FnE) (g : FnA) : FnA := fun ρ => bnd (f ρ) fun x => bnd (g ρ) fun xs => some (.ok (x :: xs))
theorem fa_of {t : TA} {f : FnA} (h : PA X es t) (w : ∀ σ H Q ρ, Envs X.K H σ ρ → OutA X H (f ρ) Q → t σ H Q) : FA X es f :=
  ⟨fun pos pins s σ H Q I ⟨ρ, E, o⟩ => h pos pins s σ H Q I (w σ H Q ρ E o)⟩
theorem fa_nil : FA X [] aNil := fa_of pa_nil fun _ H _ _ _ o => o [] H (.refl H) rfl
theorem fa_cons {g : FnA} (ha : FE X e fa) (hr : FA X es g) (hs : starEach (e :: es) X.env = (false, eval e X.env) :: starEach es X.env := by kernel_rfl) : FA X (e :: es) (aCons fa g) :=
  fa_of (pa_cons ha.h hr.h hs) fun σ H Q ρ E o => ⟨ρ, E, Out.bindA o fun d v H1 e r o1 => ⟨ρ, E.mono e, OutA.bindA o1 fun ds vs H2 e2 rs o2 => o2 (v :: vs) H2 (.refl H2) ⟨v, vs, rfl, Rep.mono e2 d v r, rs⟩⟩⟩
def fLst (g : FnA) : FnE := fun ρ => bnd (g ρ) fun ds => if ds.length ≤ 100000 then some (.ok (.lst ds)) else none
def fTup (g : FnA) : FnE := fun ρ => bnd (g ρ) fun ds => if ds.length ≤ 100000 then some (.ok (.tup ds)) else none
theorem le_line {n : Nat} (h : n ≤ 100000) : n ≤ sizeLine := Nat.le_trans h (by rw [sizeLine_eq]; decide)
theorem fe_lst {g : FnA} (h : FA X es g) : FE X (.List es pos) (fLst g) :=
  fe_of (pe_lst h.h) fun σ H Q ρ E o => ⟨ρ, E, OutA.bind o fun ds vs H1 e rs o1 => by
    split at o1
    · rename_i hl
      refine ⟨by rw [rs.length]; exact le_line hl, fun p hp => o1 (.ref p) _ (same_new hp _) ⟨p, vs, rfl, upd_same, Reps.mono (same_new hp _) _ _ rs⟩⟩
    · exact o1.elim⟩
theorem fe_tup {g : FnA} {k} (h : FA X es g) : FE X (.Tuple es k pos) (fTup g) :=
  fe_of (pe_tup h.h) fun σ H Q ρ E o => ⟨ρ, E, OutA.bind o fun ds vs H1 e rs o1 => by
    split at o1
    · rename_i hl
      refine ⟨by rw [rs.length]; exact le_line hl, fun p hp => o1 (.ref p) _ (same_new hp _) ⟨p, vs, rfl, upd_same, Reps.mono (same_new hp _) _ _ rs⟩⟩
    · exact o1.elim⟩
variable {st : Stmt} {sts : List Stmt} {f g : FnS}
theorem fss_nil : FSs X [] (fun ρ => some (.nx ρ)) := fss_of pss_nil fun D σ H ρ E o => o σ H (.refl H) E
def fSeq (f g : FnS) : FnS := fun ρ => sq (f ρ) g
theorem fss_cons (h1 : FS X st f) (h2 : FSs X sts g) : FSs X (st :: sts) (fSeq f g) :=
  fss_of (pss_cons h1.h h2.h) fun D σ H ρ E o => ⟨ρ, E, by
    unfold fSeq at o
    match hf : f ρ with
    | none => rw [hf] at o; exact o.elim
    | some (.exc c) => rw [hf] at o; exact o
    | some (.rt d) => rw [hf] at o; exact o
    | some (.nx ρ') => rw [hf] at o; exact fun σ' H' e E' => ⟨ρ', E', OutS.mono e o⟩⟩
theorem fss_one (h1 : FS X st f) : FSs X [st] f := ⟨pss_one h1.h⟩
def fRet (f : FnE) : FnS := fun ρ => bndS (f ρ) fun d => some (.rt d)
theorem fs_ret (he : FE X e fa) : FS X (.Return (some e) pos) (fRet fa) :=
  fs_of (ps_ret he.h) fun D σ H ρ E o => ⟨ρ, E, Out.bindS o fun d v H1 e r o1 => o1 v H1 (.refl H1) r⟩
def fRetN : FnS := fun _ => some (.rt .non)
def fDrop (f : FnE) : FnS := fun ρ => bndS (f ρ) fun _ => some (.nx ρ)
theorem fs_expr (he : FE X e fa) (hs : swapsWith e none pos.line X.env = pure false := by kernel_rfl) : FS X (.Expr e pos) (fDrop fa) :=
  fs_of (ps_expr he.h hs) fun D σ H ρ E o => ⟨ρ, E, Out.bindS o fun d v H1 e r o1 => o1 σ H1 (.refl H1) (E.mono e)⟩
def fSet (i : Nat) (f : FnE) : FnS := fun ρ => bndS (f ρ) fun d => some (.nx (ρ.set i (some d)))
theorem fs_set (i : Nat) {x : Str} {pos' : Pos} (hN : X.N.Nodup) (hi : X.N[i]? = some x) (hx : Loc X.env.scope x) (he : FE X e fa) (hs : swapsWith e (some (.Name x pos')) pos.line X.env = pure false := by kernel_rfl) (hf : X.fn x = true ∨ X.env.scope.names.lookup x = some .local := by first | exact .inl rfl | exact .inr rfl | assumption) :
    FS X (.Assign [.Name x pos'] e pos) (fSet i fa) :=
  fs_of (ps_set hN hi hx he.h hs hf) fun D σ H ρ E o => ⟨ρ, E, Out.bindS o fun d v H1 e r o1 => o1 _ H1 (.refl H1) ((E.mono e).set r)⟩
def fIfS (c : FnB) (f g : FnS) : FnS := fun ρ => bndS (c ρ) fun k => if k then f ρ else g ρ
theorem fs_if {as bs : List Stmt} (hc : FT X c ga) (ha : FSs X as f) (hb : FSs X bs g) : FS X (.If c as bs pos) (fIfS ga f g) :=
  fs_of (ps_if hc.h ha.h hb.h) fun D σ H ρ E o => ⟨ρ, E, OutB.bindS o fun k H1 e o1 => by
    cases k with
    | true => exact iteT ⟨ρ, E.mono e, o1⟩
    | false => exact iteF ⟨ρ, E.mono e, o1⟩⟩
def fNever : FnS := fun _ => none
theorem fs_never : FS X st fNever := fs_of ps_never fun _ _ _ _ _ o => o
end
end FD
namespace FD
open PySem PySem.Spec PyProof.Rows L2
def Its (z : Str) : It := ⟨fun i _ => i < z.cps.size, fun i H x H' => H' = H ∧ ∃ c, z.cps[i]? = some c ∧ x = .str ⟨#[c]⟩, fun i _ => i = z.cps.size⟩
theorem walks_str {prog : Program} {w : World} {A : Around} (hh : A.handled = none) (I : Addr) (x : Str) (t : Tok) {ty : String} (hty : ty = "str_ascii_iterator" ∨ ty = "str_iterator") :
    Walks prog w A I [I] [I] x.cps.size (SignAt x) (fun i h => h.IsStrIter I ty x t i) := by
  rcases hty with rfl | rfl
  · exact Walks.strAscii hh I x t
  · exact Walks.strWide hh I x t
theorem turn_str {P : Program} {w : World} {K : PySem.W.Frag} {tg : Expr} (z : Str) (t : Tok) (it : Addr) {ty : String} (hty : ty = "str_ascii_iterator" ∨ ty = "str_iterator") : Turn P w K tg (Its z) [it] it (fun i h => h.IsStrIter it ty z t i) where
  mem := by simp
  obj := fun i h st b hb => by
    have e : b = it := by simpa using hb
    subst e
    obtain ⟨o, e, c, d⟩ := st
    exact ⟨o, e, fun v z => by rw [d] at z; cases z⟩
  keep := fun i h h' st k => let ⟨o, ho, r⟩ := st; ⟨o, k it (by simp) o ho, r⟩
  item := by
    intro X hP hw hK hc i pins s σ H E I hf st hg
    subst hP hw hK
    obtain ⟨f0, f1, f2, f3, f4, f5⟩ := hf it (by simp)
    have W := walks_str (prog := X.prog) (w := X.w) (I.ok.hd hc) it z t hty
    refine W.item i s _ _ hg st fun v h' tk hv st' kk => ?_
    obtain ⟨c, u, hc', rfl⟩ := hv
    have I1 : Inv X pins σ H { s with heap := h', toks := tk } := I.turned (fun b o hb e => kk b o (by simpa using hb) e) f0 f1 f3 f4 f5
    obtain ⟨o, e, c', d⟩ := id st'
    refine ⟨_, rfl, go_of (s := { s with heap := h', toks := tk }) e c' d (by rcases hty with rfl | rfl <;> decide) ⟨.str ⟨#[c]⟩, H, I1, ⟨u, rfl⟩, ⟨rfl, c, hc', rfl⟩, st', fun b hb => (hf b hb).1⟩⟩
  done := by
    intro X hP hw hK hc i pins s σ H E I hf st hg
    subst hP hw hK
    obtain ⟨f0, f1, f2, f3, f4, f5⟩ := hf it (by simp)
    have W := walks_str (prog := X.prog) (w := X.w) (I.ok.hd hc) it z t hty
    have hg' : i = z.cps.size := hg
    subst hg'
    exact W.done s _ _ st fun h' tk kk => ⟨rfl, I.turned (fun b o hb e => kk b o (by simpa using hb) e) f0 f1 f3 f4 f5⟩
  self := fun A i s Q E st h => by
    rcases hty with rfl | rfl
    · exact wpAny_pyIter_striter_ascii st h
    · exact wpAny_pyIter_striter_wide st h
structure Wk (K : PySem.W.Frag) (J : It) (ds : List Dv) (H0 : Hp) : Prop where
  go : ∀ i H, Same H0 H → i < ds.length → J.go i H
  stop : ∀ H, Same H0 H → J.stop ds.length H
  yld : ∀ i H x H', Same H0 H → i < ds.length → J.yld i H x H' → H' = H ∧ ∃ d, ds[i]? = some d ∧ Rep K H d x
def OutI (X : Cx) (H : Hp) (o : Option (Rs (List Dv))) (R : It → Hp → Prop) : Prop := match o with
  | none => False
  | some (.exc c) => XW X c H
  | some (.ok ds) => ∀ J H', Same H H' → Wk X.K J ds H' → R J H'
structure FI (X : Cx) (tg iter : Expr) (f : FnA) : Prop where
  h : PI X tg iter fun σ H R => ∃ ρ, Envs X.K H σ ρ ∧ OutI X H (f ρ) R
theorem OutI.mono {X : Cx} {H H' : Hp} {R : It → Hp → Prop} (e : Same H H') : ∀ {o : Option (Rs (List Dv))}, OutI X H o R → OutI X H' o R
  | none, h => h
  | some (.exc _), h => XW.mono h e
  | some (.ok _), h => fun v H1 e1 r => h v H1 (e.trans e1) r
def signs (z : Str) : List Dv := z.cps.toList.map fun c => .str ⟨#[c]⟩
def items : Dv → Option (Rs (List Dv))
  | .lst ds => some (.ok ds)
  | .tup ds => some (.ok ds)
  | .str z => some (.ok (signs z))
  | _ => none
def iSeq (f : FnE) : FnA := fun ρ => bnd (f ρ) items
theorem wk_list {K : PySem.W.Frag} {H : Hp} {a : Addr} {xs : List V} {ds : List Dv} (h : H a = some (.lst xs)) (r : Reps K H ds xs) : Wk K (Itl K a) ds H where
  go := fun i H' e hi => by
    have hx : i < xs.length := by rw [r.length]; exact hi
    exact ⟨xs, xs[i], SqL.of (e _ _ h), by simp [hx]⟩
  stop := fun H' e => ⟨xs, SqL.of (e _ _ h), by rw [r.length]; exact Nat.le_refl _⟩
  yld := fun i H' x H2 e hi y => by
    obtain ⟨e2, y⟩ := y
    obtain ⟨d, h1, h2⟩ := Reps.get (Reps.mono e _ _ r) (y xs (SqL.of (e _ _ h)))
    exact ⟨e2, d, h1, h2⟩
theorem wk_tup {K : PySem.W.Frag} {H : Hp} {a : Addr} {xs : List V} {ds : List Dv} (h : H a = some (.tup xs)) (r : Reps K H ds xs) : Wk K (Itt K a) ds H where
  go := fun i H' e hi => by
    have hx : i < xs.length := by rw [r.length]; exact hi
    exact ⟨xs, xs[i], SqT.of (e _ _ h), by simp [hx]⟩
  stop := fun H' e => ⟨xs, SqT.of (e _ _ h), by rw [r.length]; exact Nat.le_refl _⟩
  yld := fun i H' x H2 e hi y => by
    obtain ⟨e2, y⟩ := y
    obtain ⟨d, h1, h2⟩ := Reps.get (Reps.mono e _ _ r) (y xs (SqT.of (e _ _ h)))
    exact ⟨e2, d, h1, h2⟩
theorem wk_str {K : PySem.W.Frag} {H : Hp} {z : Str} : Wk K (Its z) (signs z) H where
  go := fun i H' e hi => by show i < z.cps.size; simpa [signs] using hi
  stop := fun H' e => by show (signs z).length = z.cps.size; simp [signs]
  yld := fun i H' x H2 e hi y => by
    obtain ⟨e2, c, hc, rfl⟩ := y
    refine ⟨e2, .str ⟨#[c]⟩, ?_, rfl⟩
    have hc' : z.cps.toList[i]? = some c := by simpa using hc
    rw [signs, List.getElem?_map, hc'] <;> rfl
def rng (lo : Int) : Nat → List Dv
  | 0 => []
  | n + 1 => .int lo :: rng (lo + 1) n
section
variable {X : Cx} {tg l a b : Expr} {fl : FnE} {pos p : Pos}
theorem fi_seq (hl : FE X l fl) : FI X tg l (iSeq fl) := by
  constructor
  intro pins s σ H R I h
  obtain ⟨ρ, E, o⟩ := h
  have key : Out X H (fl ρ) fun x H1 => ∃ d, Rep X.K H1 d x ∧ OutI X H1 (items d) R := by
    unfold iSeq at o
    match hf : fl ρ, o with
    | some (.exc c), o => exact o
    | some (.ok d), o => exact fun v H1 e r => ⟨d, r, OutI.mono e o⟩
    | none, o => exact o
  refine thn (hl.h pins s σ H _ I ⟨ρ, E, key⟩) fun v s1 ⟨x, H1, I1, r1, d, rd, q⟩ => ?_
  have fin : ∀ (o : Obj) (tn : Nat → Heap → Prop) (J : It) (ds : List Dv), Turn X.prog X.w X.K tg J [s1.heap.objs.size] s1.heap.objs.size tn → tn 0 (s1.heap.push o) → Wk X.K J ds H1 → (∀ J H', Same H1 H' → Wk X.K J ds H' → R J H') →
      PIE X pins σ tg R (.ref s1.heap.objs.size) { s1 with heap := s1.heap.push o } := fun o tn J ds T t0 w q => by
    refine ⟨s1.heap.objs.size, [s1.heap.objs.size], tn, J, H1, rfl, I1.kept (t' := s1.toks) fun b o e => Heap.get?_push_of_some _ e, T, t0, fun b hb => ?_, q J H1 (.refl H1) w⟩
    have e : b = s1.heap.objs.size := by simpa using hb
    subst e
    exact I1.fpOk (Nat.le_refl _) (I1.hok.fresh (Nat.le_refl _))
  cases d with
  | lst ds =>
    obtain ⟨a, xs, rfl, h1, h2⟩ := rd.lstE
    cases r1
    obtain ⟨its, rv, p, hz⟩ := I1.list (SqL.of h1)
    exact wpAny_pyIter_list p.isList (fin _ _ (Itl X.K a) ds (turn_list a _) ⟨_, Heap.get?_push_size _ rfl, rfl, rfl⟩ (wk_list h1 h2) q)
  | tup ds =>
    obtain ⟨a, xs, rfl, h1, h2⟩ := rd.tupE
    cases r1
    obtain ⟨its, rv, p, hz⟩ := I1.tuple (SqT.of h1)
    exact wpAny_pyIter_tuple (show s1.heap.IsTuple a its.toArray from p) (fin _ _ (Itt X.K a) ds (turn_tuple a _) ⟨_, Heap.get?_push_size _ rfl, rfl, rfl⟩ (wk_tup h1 h2) q)
  | str z =>
    cases (show x = .str z from rd)
    obtain ⟨t, rfl⟩ := r1
    have hty : strIterType z = "str_ascii_iterator" ∨ strIterType z = "str_iterator" := by
      unfold strIterType
      split
      · exact .inl rfl
      · exact .inr rfl
    exact wpAny_pyIter_strU (fin _ _ (Its z) (signs z) (turn_str z t _ hty) ⟨_, Heap.get?_push_size _ rfl, rfl, rfl⟩ wk_str q)
  | _ => exact q.elim
end
theorem drop_cons {α : Type} {ds : List α} {i : Nat} {d : α} (h : ds[i]? = some d) : ds.drop i = d :: ds.drop (i + 1) := by
  obtain ⟨hi, e⟩ := List.getElem?_eq_some_iff.mp h
  rw [List.drop_eq_getElem_cons hi, e]
def spF (K : PySem.W.Frag) (F : List Dv → Option (Rs Dv)) (n : Nat) : Sp := fun vs H Q _ => ∃ ds, Reps K H ds vs ∧ ds.length = n ∧ match F ds with
  | some (.ok d) => ∀ v H', Same H H' → Rep K H' d v → Q v H'
  | _ => False
def fCall (F : List Dv → Option (Rs Dv)) (n : Nat) (g : FnA) : FnE := fun ρ => bnd (g ρ) fun ds => if ds.length = n then (match F ds with | some (.ok d) => some (.ok d) | _ => none) else none
section
variable {X : Cx} {k n : Nat} {f : Addr} {fd : FuncData} {ps : List Str} {x : Str} {p pos : Pos} {e : Expr} {es : List Expr} {F : List Dv → Option (Rs Dv)} {g : FnA}
theorem fe_call (G : FnOk X.prog X.w X.K X.mg X.base CX0 k f fd ps (spF X.K F n)) (hr : Room k X.A) (hg : Gl X x) (hm : X.mg x = some (.ref f)) (hk : PySem.W.keepIn X.K (.ref f) = true) (hb : Binds X.K fd ps [])
    (ha : FA X (e :: es) g) (hdb : (x == ("__debug__" : Str)) = false := by kernel_rfl) (he : starEach (e :: es) X.env = (false, eval e X.env) :: starEach es X.env := by kernel_rfl) (hpl : (backTo pos (starEach es X.env)).any (·.1) = false := by kernel_rfl) :
    FE X (.Call (.Name x p) (e :: es) [] pos) (fCall F n g) :=
  fe_of (pe_call G hr hg hm hk hb .nil pass0 ha.h hdb he hpl) fun σ H Q ρ E o => ⟨ρ, E, OutA.bind o fun ds vs H' e rs o1 => by
    show spF X.K F n (vs ++ []) H' Q E0
    rw [List.append_nil]
    split at o1
    · rename_i hl
      refine ⟨ds, rs, hl, ?_⟩
      match hF : F ds with
      | some (.ok d) => rw [hF] at o1; exact o1
      | some (.exc c) => rw [hF] at o1; exact o1
      | none => rw [hF] at o1; exact o1
    · exact o1.elim⟩
def Has (P : Program) (w : World) (K : PySem.W.Frag) (mg : Str → Option Value) (base : Heap) (x : Str) (k : Nat) (ps : List Str) (F : List Dv → Option (Rs Dv)) : Prop :=
  ∃ f fd, FnOk P w K mg base CX0 k f fd ps (spF K F ps.length) ∧ mg x = some (.ref f) ∧ PySem.W.keepIn K (.ref f) = true ∧ Binds K fd ps []
theorem fe_callH {k' : Nat} (k : Nat) (ps : List Str) (F : List Dv → Option (Rs Dv)) (h : Has X.prog X.w X.K X.mg X.base x k ps F) (hr : Room k' X.A) (hk : k ≤ k') (hg : Gl X x) (ha : FA X (e :: es) g) (hn : n = ps.length := by kernel_rfl) (hdb : (x == ("__debug__" : Str)) = false := by kernel_rfl)
    (he : starEach (e :: es) X.env = (false, eval e X.env) :: starEach es X.env := by kernel_rfl) (hpl : (backTo pos (starEach es X.env)).any (·.1) = false := by kernel_rfl) :
    FE X (.Call (.Name x p) (e :: es) [] pos) (fCall F n g) := by
  subst hn
  obtain ⟨f, fd, G, hm, hkp, hb⟩ := h
  exact fe_call (G.mono hk) hr hg hm hkp hb ha hdb he hpl
def runF (m : Nat) (fb : FnS) : List Dv → Option (Rs Dv) := fun ds => match fb (ds.map some ++ List.replicate (m - ds.length) none) with
  | some (.nx _) => some (.ok .non)
  | some (.rt d) => some (.ok d)
  | _ => none
theorem envs_start {K : PySem.W.Frag} {H : Hp} {N : List Str} {ds : List Dv} {vs : List V} (r : Reps K H ds vs) : Envs K H (L2.start N vs) (ds.map some ++ List.replicate (N.length - ds.length) none) := by
  have hl := r.length
  refine ⟨by unfold L2.start; rw [List.length_append, List.length_append, List.length_map, List.length_map, List.length_replicate, List.length_replicate, hl], fun i d h => ?_⟩
  by_cases hi : i < ds.length
  · rw [List.getElem?_append_left (by simpa using hi), List.getElem?_map] at h
    cases hd : ds[i]? with
    | none => rw [hd] at h; cases h
    | some d' =>
      rw [hd] at h
      have h' : some (some d') = some (some d) := h
      injection h' with h'
      injection h' with h'
      subst h'
      obtain ⟨v, h1, h2⟩ := r.get' hd
      refine ⟨v, ?_, h2⟩
      unfold L2.start
      rw [List.getElem?_append_left (by rw [List.length_map, hl]; exact hi), List.getElem?_map, h1] <;> rfl
  · rw [List.getElem?_append_right (by simpa using hi), List.getElem?_replicate] at h
    split at h <;> cases h
theorem fn_ok {P : Program} {w : World} {K : PySem.W.Frag} {mg : Str → Option Value} {base : Heap} {qual : Str} {st : Stmt} {N : List Str} {fb : FnS} (Fn : Fun K x qual st f fd) (S : FnScope N ps (defScope st))
    (hb : ∀ (cdv : Value) (A : Around) (outer : List Env) (s : Shared) (H : Hp) (E : XK), Room k (A.deeper (envOfC qual (defScope st) s.heap.objs.size f cdv)) → FSs (cxOf CX0 P w K mg base N qual (defScope st) f cdv A outer s H E).nox (defBody st) fb) :
    FnOk P w K mg base CX0 (k + 1) f fd ps (spF K (runF N.length fb) ps.length) := by
  refine Fn.ok S (fun vs H Q E h => ?_) (fun cdv A outer s H vs Q E hr h => ?_)
  · obtain ⟨ds, r, hl, _⟩ := h
    rw [r.length, hl]
  · obtain ⟨ds, r, hl, q⟩ := h
    refine ⟨_, (hb cdv A outer s H E hr).h, ds.map some ++ List.replicate (N.length - ds.length) none, envs_start r, ?_⟩
    unfold runF at q
    match hf : fb (ds.map some ++ List.replicate (N.length - ds.length) none) with
    | none => rw [hf] at q; exact q.elim
    | some (.exc c) => rw [hf] at q; exact q.elim
    | some (.rt d) => rw [hf] at q; exact fun v H' e r' => q v H' e r'
    | some (.nx ρ) => rw [hf] at q; exact fun σ' H' e _ => q .non H' e rfl
end
theorem fn_ok2 {k : Nat} {f : Addr} {fd : FuncData} {x : Str} {P : Program} {w : World} {K : PySem.W.Frag} {mg : Str → Option Value} {base : Heap} {qual : Str} {st : Stmt} {F : List Dv → Option (Rs Dv)} {n : Nat} (N ps : List Str) (fb : FnS) (hF : F = runF N.length fb) (hn : n = ps.length)
    (Fn : Fun K x qual st f fd) (S : FnScope N ps (defScope st))
    (hb : ∀ (cdv : Value) (A : Around) (outer : List Env) (s : Shared) (H : Hp) (E : XK), Room k (A.deeper (envOfC qual (defScope st) s.heap.objs.size f cdv)) → FSs (cxOf CX0 P w K mg base N qual (defScope st) f cdv A outer s H E).nox (defBody st) fb) :
    FnOk P w K mg base CX0 (k + 1) f fd ps (spF K F n) := by
  subst hF hn
  exact fn_ok Fn S hb
end FD
namespace FD
open PySem PySem.Spec PyProof.Rows L2
def clOf (names : List (Str × NameKind)) (env : Env) (acc : List (Str × Addr)) : List (Str × Addr) := match names with
  | [] => acc
  | (n, k) :: r => clOf r env (if k == .free then (n, (env.cells.lookup n).getD 0) :: acc else acc)
theorem clOf_sound {env : Env} {n : Str} {c : Addr} : ∀ (names : List (Str × NameKind)) (acc : List (Str × Addr)), (clOf names env acc).lookup n = some c → acc.lookup n = some c ∨ ((n, NameKind.free) ∈ names ∧ c = (env.cells.lookup n).getD 0)
  | [], acc, h => .inl h
  | (m, k) :: r, acc, h => by
    rcases clOf_sound r _ h with q | ⟨q1, q2⟩
    · by_cases hk : k = .free
      · subst hk
        simp only [beq_self_eq_true, if_true] at q
        rw [List.lookup_cons] at q
        cases hm : n == m with
        | true =>
          rw [hm] at q
          have e : n = m := by simpa using hm
          subst e
          exact .inr ⟨List.mem_cons_self, (Option.some.inj q).symm⟩
        | false => rw [hm] at q; exact .inl q
      · have hb : (k == NameKind.free) = false := by simpa using hk
        rw [hb] at q
        exact .inl (by simpa using q)
    · exact .inr ⟨List.mem_cons_of_mem _ q1, q2⟩
theorem clOf_keep {env : Env} {n : Str} : ∀ (names : List (Str × NameKind)) (acc : List (Str × Addr)), (acc.lookup n).isSome = true → ((clOf names env acc).lookup n).isSome = true
  | [], acc, h => h
  | (m, k) :: r, acc, h => by
    refine clOf_keep r _ ?_
    split
    · rw [List.lookup_cons]
      cases n == m with
      | true => rfl
      | false => exact h
    · exact h
theorem clOf_has {env : Env} {n : Str} : ∀ (names : List (Str × NameKind)) (acc : List (Str × Addr)), (n, NameKind.free) ∈ names → ((clOf names env acc).lookup n).isSome = true
  | [], acc, h => by cases h
  | (m, k) :: r, acc, h => by
    rcases List.mem_cons.mp h with e | q
    · injection e with e1 e2
      subst e1
      subst e2
      refine clOf_keep r _ ?_
      simp only [beq_self_eq_true, if_true, List.lookup_cons]
      rfl
    · exact clOf_has r _ q
theorem lookup_mem {β : Type} {n : Str} {k : β} : ∀ {l : List (Str × β)}, l.lookup n = some k → (n, k) ∈ l
  | [], h => by simp at h
  | (m, j) :: r, h => by
    rw [List.lookup_cons] at h
    cases hm : n == m with
    | true =>
      rw [hm] at h
      have e : n = m := by simpa using hm
      subst e
      have e2 : j = k := Option.some.inj h
      subst e2
      exact List.mem_cons_self
    | false => rw [hm] at h; exact List.mem_cons_of_mem _ (lookup_mem h)
def compCx (X : Cx) (N : List Str) (scope : Scope) (C : Addr) (s : Shared) (H : Hp) (fp : List Addr) : Cx :=
  { X with N := N, s₀ := s, H₀ := H, env := compEnvC scope (clOf scope.names X.env []) C X.env, outer := X.stack, stack := X.stack, ex := fp, fn := fun _ => false, pn := [], xe := fun _ _ => False }
structure CompOk (osc scope : Scope) (x : Str) (cs : List (Str × Nat)) (N : List Str) : Prop where
  kind : scope.kind = .function
  okind : osc.kind = .function
  cell : ∀ y ∈ scope.names, y.2 ≠ .cell
  names : ∀ y ∈ scope.names, y.2 = .local → scope.names.lookup y.1 = some .local
  tgt : scope.names.lookup x = some .local
  nd : (x :: cs.map (·.1)).Nodup
  free : ∀ y ∈ scope.names, y.2 = .free → osc.names.lookup y.1 = some .cell ∨ osc.names.lookup y.1 = some .free
  caps : ∀ c ∈ cs, N[c.2]? = some c.1 ∧ scope.names.lookup c.1 = some .free
theorem relabel_kind {scope : Scope} {env : Env} {n : Str} {k : NameKind} (h : (relabel scope env).names.lookup n = some k) : (n, k) ∈ scope.names ∨ (k = .cell ∧ (n, NameKind.free) ∈ scope.names) := by
  have q := lookup_mem h
  unfold relabel at q
  obtain ⟨⟨m, j⟩, hm, e⟩ := List.mem_map.mp q
  dsimp only at e
  split at e
  · rename_i hc
    injection e with e1 e2
    subst e1
    have hj : j = .free := by
      rw [Bool.and_eq_true, Bool.and_eq_true] at hc
      simpa using hc.1.1
    subst hj
    exact .inr ⟨e2.symm, hm⟩
  · injection e with e1 e2
    subst e1
    subst e2
    exact .inl hm
theorem relabel_free {env : Env} : ∀ {names : List (Str × NameKind)} {n : Str}, names.lookup n = some .free →
    (names.map fun (n, k) => if (k == NameKind.free && env.scope.kind == .function && env.kindOf n == some .cell) then (n, NameKind.cell) else (n, k)).lookup n = some .cell ∨
    (names.map fun (n, k) => if (k == NameKind.free && env.scope.kind == .function && env.kindOf n == some .cell) then (n, NameKind.cell) else (n, k)).lookup n = some .free
  | [], _, h => by simp at h
  | (m, k) :: r, n, h => by
    have ih := @relabel_free env r n
    rw [List.lookup_cons] at h
    rw [List.map_cons]
    cases hm : n == m with
    | true =>
      rw [hm] at h
      have e2 : k = .free := Option.some.inj h
      subst e2
      by_cases hc : (NameKind.free == NameKind.free && env.scope.kind == .function && env.kindOf m == some .cell) = true
      · dsimp only
        rw [if_pos hc, List.lookup_cons, hm]
        exact .inl rfl
      · dsimp only
        rw [if_neg hc, List.lookup_cons, hm]
        exact .inr rfl
    | false =>
      rw [hm] at h
      dsimp only
      by_cases hc : (k == NameKind.free && env.scope.kind == .function && env.kindOf m == some .cell) = true
      · rw [if_pos hc, List.lookup_cons, hm]; exact ih h
      · rw [if_neg hc, List.lookup_cons, hm]; exact ih h
def capS (cs : List (Str × Nat)) (σ : L2.St) : L2.St := none :: cs.map fun c => (σ[c.2]?).join
def capE (cs : List (Str × Nat)) (ρ : Ev) : Ev := none :: cs.map fun c => (ρ[c.2]?).join
theorem envs_cap {K : PySem.W.Frag} {H : Hp} {σ : L2.St} {ρ : Ev} (cs : List (Str × Nat)) (E : Envs K H σ ρ) : Envs K H (capS cs σ) (capE cs ρ) := by
  refine ⟨by simp [capS, capE], fun i d h => ?_⟩
  cases i with
  | zero => simp [capE] at h
  | succ i =>
    simp only [capE, List.getElem?_cons_succ, List.getElem?_map] at h
    cases hc : cs[i]? with
    | none => rw [hc] at h; simp at h
    | some c =>
      rw [hc] at h
      simp only [Option.map_some, Option.some.injEq] at h
      have h2 : ρ[c.2]? = some (some d) := by
        cases q : ρ[c.2]? with
        | none => rw [q] at h; simp at h
        | some o => rw [q] at h; simp at h; rw [h]
      obtain ⟨v, h3, h4⟩ := E.at' c.2 d h2
      refine ⟨v, ?_, h4⟩
      simp only [capS, List.getElem?_cons_succ, List.getElem?_map, hc, Option.map_some, h3]
      rfl
section
variable {X : Cx} {pins : List (Addr × Obj)} {σ : L2.St} {H : Hp} {s : Shared}
theorem comp_inv {scope : Scope} {x : Str} {cs : List (Str × Nat)} {fp : List Addr} {h₁ : Heap} {C : Addr} {t' : Nat} (ok : CompOk X.env.scope scope x cs X.N) (I : Inv X pins σ H s) (hfp : ∀ b ∈ fp, FpOk X pins H b) (hlt : ∀ b ∈ fp, b < s.heap.objs.size)
    (hC : s.heap.objs.size ≤ C) (hns : h₁.Ns C fun _ => none) (old : ∀ b o, s.heap.get? b = some o → h₁.get? b = some o) :
    Inv (compCx X (x :: cs.map (·.1)) scope C s H fp) [] (capS cs σ) H { s with heap := h₁, toks := t' } := by
  have cl1 : ∀ n c, (clOf scope.names X.env []).lookup n = some c → X.env.cells.lookup n = some c := fun n c e => by
    rcases clOf_sound _ _ e with q | ⟨q1, q2⟩
    · simp at q
    · obtain ⟨c', e'⟩ := I.ok.has n (ok.free _ q1 rfl)
      rw [e'] at q2
      rw [e', q2] <;> rfl
  have kf : ∀ n k, (relabel scope X.env).names.lookup n = some k → (k = .cell ∨ k = .free) → (n, NameKind.free) ∈ scope.names := fun n k h hk => by
    rcases relabel_kind h with q | ⟨_, q⟩
    · rcases hk with rfl | rfl
      · exact absurd rfl (ok.cell _ q)
      · exact q
    · exact q
  refine ⟨⟨I.ok.mod, ok.kind, I.ok.glob, I.ok.blt, hC, fun y z c e1 e2 => I.ok.inj y z c (cl1 y c e1) (cl1 z c e2), fun y hy => ?_, fun y c h => Bool.noConfusion h, I.ok.hd, I.ok.frames, .inl rfl, fun b hb => ⟨fun z => ?_, fun y c e => (hfp b hb).2.2.2.2.1 y c (cl1 y c e)⟩, I.bs, Nat.le_trans I.ok.bsz I.sz, fun b o e hb => ?_, fun b hb z => ?_, I.stack, I.stkFree⟩,
    rfl, I.bare, Un.kept old, ⟨_, hns, fun i y v h1 h2 h3 => ?_⟩, fun y c e => ?_, I.hok.fresh hC, fun y c e => I.freeC y c (cl1 y c e), fun p hp => absurd (show p ∈ ([] : List (Addr × Obj)) from hp) (by simp), I.hok.kept old, by simp [capS, compCx]⟩
  · have hm : (y, NameKind.free) ∈ scope.names := by
      rcases hy with hy | hy
      · exact kf y _ hy (.inl rfl)
      · exact kf y _ hy (.inr rfl)
    exact Option.isSome_iff_exists.mp (clOf_has _ _ hm)
  · have := hlt b hb
    rw [z] at this
    exact absurd (Nat.lt_of_lt_of_le this hC) (Nat.lt_irrefl _)
  · rcases (hfp b hb).2.2.2.1 with z | z
    · exact I.ok.noex b o e z
    · exact absurd (Nat.lt_of_lt_of_le (Heap.lt_size e) (Nat.le_trans I.ok.bsz z)) (Nat.lt_irrefl _)
  · rcases List.mem_cons.mp (I.stkSub b z) with q | q
    · exact (hfp b hb).2.1 q
    · exact (hfp b hb).2.2.1 q
  · cases i with
    | zero => simp [capS] at h2
    | succ i =>
      have h1' : (cs.map (·.1))[i]? = some y := by simpa [compCx] using h1
      rw [List.getElem?_map] at h1'
      cases hc : cs[i]? with
      | none => rw [hc] at h1'; simp at h1'
      | some c =>
        rw [hc] at h1'
        have ey : c.1 = y := by simpa using h1'
        subst ey
        simp only [capS, List.getElem?_cons_succ, List.getElem?_map, hc, Option.map_some, Option.some.injEq] at h2
        have h2' : σ[c.2]? = some (some v) := by
          cases q : σ[c.2]? with
          | none => rw [q] at h2; simp at h2
          | some o => rw [q] at h2; simp at h2; rw [h2]
        obtain ⟨hN, hf⟩ := ok.caps c (List.mem_of_getElem? hc)
        have hv := ok.free _ (lookup_mem hf) rfl
        obtain ⟨m, _, hl⟩ := I.loc
        obtain ⟨u, r, l⟩ := hl c.2 c.1 v hN h2' (.inr hv)
        refine ⟨u, r, .inr ⟨relabel_free hf, ?_⟩⟩
        rcases l with ⟨l, _⟩ | ⟨_, a, ha, o, ho, hd⟩
        · have l' : X.env.scope.names.lookup c.1 = some .local := l
          rcases hv with z | z
          · rw [l'] at z; cases z
          · rw [l'] at z; cases z
        · obtain ⟨a', ha'⟩ := Option.isSome_iff_exists.mp (clOf_has (env := X.env) scope.names [] (lookup_mem hf))
          have e2 := cl1 _ _ ha'
          rw [ha] at e2
          cases e2
          exact ⟨a, ha', o, old _ _ ho, hd⟩
  · obtain ⟨v, o, ho, hd⟩ := I.cell y c (cl1 y c e)
    exact ⟨v, o, old _ _ ho, hd⟩
end
def mapF (tst : Option FnB) (elt : FnE) (cap : Ev) : List Dv → Option (List Dv)
  | [] => some []
  | d :: ds =>
    let ρ := cap.set 0 (some d)
    match (match tst with | none => (some (.ok true) : Option (Rs Bool)) | some t => t ρ) with
    | some (.ok true) => (match elt ρ with
      | some (.ok y) => (match mapF tst elt cap ds with | some ys => some (y :: ys) | none => none)
      | _ => none)
    | some (.ok false) => mapF tst elt cap ds
    | _ => none
def fComp (cs : List (Str × Nat)) (src : FnA) (tst : Option FnB) (elt : FnE) : FnE := fun ρ => bnd (src ρ) fun ds => match mapF tst elt (capE cs ρ) ds with
  | some ys => if ys.length ≤ 100000 ∧ ds.length ≤ 100000 then some (.ok (.lst ys)) else none
  | none => none
def LAt (h : Heap) (D : Addr) (its : List Value) : Prop := ∃ n, h.get? D = some { cls := .type "list", data := .seq its.toArray n }
theorem lat_append {P : Program} {w : World} {A : Around} {E : Value → Shared → Prop} {s : Shared} {D : Addr} {its : List Value} {u : Value} {Q : Value → Shared → Prop} (h : LAt s.heap D its) (hz : its.length ≤ 100000)
    (hQ : ∀ h', LAt h' D (its ++ [u]) → (∀ b o, b ≠ D → s.heap.get? b = some o → h'.get? b = some o) → Q .none { s with heap := h' }) : wpAny (model P w) A (call (.builtin "list.append") [.ref D, u]) Q E s := by
  obtain ⟨n, e⟩ := h
  refine call_meets F.slot_list_append ⟨_, e, rfl⟩ F.entry_list_append (F.args_list_append_2 _ _) (PySem.list_append D its.toArray n u (by rw [List.size_toArray]; exact le_line hz)) ⟨e, ?_⟩
  have q := PySem.IsL.update e (·.push u)
  have e2 : its.toArray.push u = (its ++ [u]).toArray := by simp
  rw [e2] at q
  exact hQ _ ⟨_, q⟩ fun b o hb ho => (Heap.get?_update_other s.heap _ (Ne.symm hb)).trans ho
def FIfs (X : Cx) (ifs : List Expr) (tst : Option FnB) : Prop := match tst with
  | none => ifs = []
  | some t => ∃ c, ifs = [c] ∧ FT X c t
theorem HOk.add {P : Program} {w : World} {H : Hp} {h h' : Heap} {D C : Addr} {o : HO} (x : HOk P w H h) (hD : H D = none) (hC : H C = none) (k : ∀ b u, b ≠ C → h.get? b = some u → h'.get? b = some u) (new : ObjOk P w (upd H D o) h' D o) : HOk P w (upd H D o) h' := fun b u e => by
  by_cases hb : b = D
  · subst hb; rw [upd_same] at e; cases e; exact new
  · rw [upd_ne hb] at e
    refine (x b u e).stay (fun c v hc q => k c v ?_ q) (fun c q => by rw [upd_ne (ne_of_none q hD)]; exact q) fun c xs q => by rw [upd_ne (ne_of_none q hD)]; exact q
    rcases hc with rfl | hc
    · exact ne_of_none e hC
    · exact ne_of_none hc hC
def CompI (X : Cx) (x : Str) (cs : List (Str × Nat)) (scope : Scope) (D : Addr) (s2 : Shared) (H2 : Hp) (fp : List Addr) (tn : Nat → Heap → Prop) (ds ys : List Dv) (tst : Option FnB) (fe : FnE) (ρ : Ev) (m : Nat) (s' : Shared) : Prop :=
  ∃ i σ' H' es vs its, m = ds.length - i ∧ i ≤ ds.length ∧ Inv (compCx X (x :: cs.map (·.1)) scope (D + 1) s2 H2 fp) [] σ' H' s' ∧ Envs X.K H' σ' (capE cs ρ) ∧ tn i s'.heap ∧ (∀ b ∈ fp, H' b = none) ∧ H' D = none ∧ LAt s'.heap D its ∧ Vals vs its ∧ Reps X.K H' es vs ∧ es.length ≤ i ∧ Same H2 H' ∧
      (match mapF tst fe (capE cs ρ) (ds.drop i) with | some zs => es ++ zs = ys | none => False)
theorem ad_ne {b D : Nat} (h : b < D) : b ≠ D := by omega
theorem ad_ne1 {b D : Nat} (h : b < D) : b ≠ D + 1 := by omega
theorem ad_s {D : Nat} : D ≠ D + 1 := by omega
set_option maxHeartbeats 4000000 in
theorem fe_comp0 {X : Cx} {elt iter : Expr} {x : Str} {px : Pos} {ifs : List Expr} {scope : Scope} {pos : Pos} {src : FnA} {tst : Option FnB} {fe : FnE} (cs : List (Str × Nat)) (ok : CompOk X.env.scope scope x cs X.N) (hcl : closureFor scope X.env = pure (clOf scope.names X.env [])) (hc : X.calm = true)
    (hi : FI X (.Name x px) iter src) (helt : ∀ C s H fp, FE (compCx X (x :: cs.map (·.1)) scope C s H fp) elt fe) (hifs : ∀ C s H fp, FIfs (compCx X (x :: cs.map (·.1)) scope C s H fp) ifs tst)
    (hs : ∀ x, foldedSetIterable iter X.env x = pure x := by intro _; kernel_rfl) : FE X (.ListComp elt [⟨.Name x px, iter, ifs, 0⟩] scope pos) (fComp cs src tst fe) := by
  constructor
  intro pins s σ H Q I h
  obtain ⟨ρ, E, o⟩ := h
  rw [eval_ListComp]
  have key : OutI X H (src ρ) fun J H' => ∃ ds ys, Same H H' ∧ Wk X.K J ds H' ∧ ds.length ≤ 100000 ∧ ys.length ≤ 100000 ∧ mapF tst fe (capE cs ρ) ds = some ys ∧ (∀ v H'', Same H' H'' → Rep X.K H'' (.lst ys) v → Q v H'') := by
    unfold fComp at o
    match hf : src ρ, o with
    | none, o => exact o
    | some (.exc c), o => exact o
    | some (.ok ds), o =>
      intro J H' e wk
      have o' : Out X H (match mapF tst fe (capE cs ρ) ds with | some ys => if ys.length ≤ 100000 ∧ ds.length ≤ 100000 then some (.ok (.lst ys)) else none | none => none) Q := o
      match hm : mapF tst fe (capE cs ρ) ds, o' with
      | none, o' => exact o'.elim
      | some ys, o' =>
        dsimp only at o'
        split at o'
        · rename_i hl
          exact ⟨ds, ys, e, wk, hl.2, hl.1, hm, fun v H'' e2 r => o' v H'' (e.trans e2) r⟩
        · exact o'.elim
  refine wpAny_comprehension_free (use := none) rfl hs hcl ok.kind ok.names (thn (hi.h pins s σ H _ I ⟨ρ, E, key⟩) fun v s1 h1 => thn h1 fun itv s2 h2 => ?_)
  obtain ⟨it, fp, tn, J, H2, e, I2, T, st2, f2, ds, ys, e12, wk, hdl, hyl, hm, hQ⟩ := h2
  subst e
  have fplt : ∀ b ∈ fp, b < s2.heap.objs.size := fun b hb => by
    obtain ⟨o, ho, _⟩ := T.obj _ _ st2 b hb
    exact Heap.lt_size ho
  refine wpAny_newObj_type (wpAny_newFunctionEnv ok.cell (by intro y hy; simp at hy) (fun h₁ hns₁ hsb₁ => ?_) ok.kind)
  dsimp only at hns₁ hsb₁ ⊢
  generalize hH2 : s2.heap.push { cls := .type "list", dict := none, data := .seq ([] : List Value).toArray } = P2 at hns₁ hsb₁ ⊢
  obtain ⟨D, hD⟩ : ∃ D, s2.heap.objs.size = D := ⟨_, rfl⟩
  have hC : P2.objs.size = D + 1 := by rw [← hH2, Heap.size_push, hD]
  rw [hC] at hns₁ hsb₁
  rw [hC, hD]
  have old : ∀ b o, s2.heap.get? b = some o → h₁.get? b = some o := fun b o e => by
    have hb : b < D := by rw [← hD]; exact Heap.lt_size e
    exact hsb₁.extBut b o (ad_ne1 hb) (Heap.get?_push_of_some _ (hH2 ▸ Heap.get?_push_of_some _ e))
  have hacc : LAt h₁ D [] := ⟨0, hsb₁.extBut _ _ ad_s (Heap.get?_push_of_some _ (by rw [← hH2, ← hD]; exact Heap.get?_push_size _ rfl))⟩
  have hns : h₁.Ns (D + 1) fun _ => none := by simpa using hns₁
  have I4 : Inv (compCx X (x :: cs.map (·.1)) scope (D + 1) s2 H2 fp) [] (capS cs σ) H2 { s2 with heap := h₁, toks := s2.toks + ([] : List (Str × Value)).length } := comp_inv ok I2 f2 fplt (by rw [hD]; exact Nat.le_succ D) hns old
  have E4 : Envs X.K H2 (capS cs σ) (capE cs ρ) := envs_cap cs (E.mono e12)
  have HD : H2 D = none := I2.hok.fresh (Nat.le_of_eq hD)
  have fpD : ∀ b ∈ fp, b ≠ D := fun b hb => ad_ne (hD ▸ fplt b hb)
  have loop : ∀ s4 : Shared, s4 = { s2 with heap := h₁, toks := s2.toks + ([] : List (Str × Value)).length } →
      codeAny (model X.prog X.w) X.A (.compLoop (.ListComp elt [⟨.Name x px, iter, ifs, 0⟩] scope pos) 0 (.ref it) (.ref D) (compEnvC scope (clOf scope.names X.env []) (D + 1) X.env))
        (compPost (model X.prog X.w) X.A X.xe none (EP X pins σ Q) (.ref D) (D + 1)) s4 := by
    rintro s4 rfl
    refine codeAny_compLoop_tests (fun m s' => CompI X x cs scope D s2 H2 fp tn ds ys tst fe ρ m s') ?_ ds.length ⟨0, capS cs σ, H2, [], [], [], by simp, Nat.zero_le _, I4, E4, T.keep _ _ _ st2 fun b hb o e => old b o e, fun b hb => (f2 b hb).1, HD, hacc, .nil, rfl, Nat.le_refl _, .refl H2, by rw [List.drop_zero, hm]; rfl⟩
    rintro m s5 ⟨i, σ5, H5, es, vs, its, rfl, hi5, I5, E5, t5, fr5, D5, l5, v5, r5, hel, e5, hz⟩
    have nC : ∀ b ∈ fp, b ≠ D + 1 := fun b hb => ad_ne1 (hD ▸ fplt b hb)
    have fp5 : ∀ b ∈ fp, FpOk (compCx X (x :: cs.map (·.1)) scope (D + 1) s2 H2 fp) [] H5 b := fun b hb => ⟨fr5 b hb, nC b hb, I4.ok.exfs b hb, .inl hb, (I4.ok.exf b hb).2, fun p hp => absurd (show p ∈ ([] : List (Addr × Obj)) from hp) (by simp)⟩
    have lenV : vs.length = its.length := v5.length
    have lenR : vs.length = es.length := r5.length
    have DL : D ≠ (compCx X (x :: cs.map (·.1)) scope (D + 1) s2 H2 fp).env.locals := ad_s
    have Dcell : ∀ y c, (compCx X (x :: cs.map (·.1)) scope (D + 1) s2 H2 fp).env.cells.lookup y = some c → c ≠ D := fun y c e z => by
      obtain ⟨v, o, ho, hd⟩ := I5.cell y c e
      obtain ⟨n, q⟩ := l5
      subst z
      rw [q] at ho
      cases ho
      cases hd
    have Dfs : D ∉ (compCx X (x :: cs.map (·.1)) scope (D + 1) s2 H2 fp).fs := fun z => by
      rcases List.mem_cons.mp (I2.stkSub D z) with q | q
      · have z2 := I2.lt
        rw [hD] at z2
        exact ad_ne z2 q.symm
      · exact I2.nofs (Nat.le_of_eq hD) q
    have Dp : FpOk (compCx X (x :: cs.map (·.1)) scope (D + 1) s2 H2 fp) [] H5 D := ⟨D5, DL, Dfs, .inr (Nat.le_of_eq hD), Dcell, fun p hp => absurd (show p ∈ ([] : List (Addr × Obj)) from hp) (by simp)⟩
    have Dob : ∀ b ∈ [D], ∃ o, s5.heap.get? b = some o ∧ ∀ v, o.data ≠ .cell v := fun b hb => by
      have e : b = D := by simpa using hb
      subst e
      obtain ⟨n, q⟩ := l5
      exact ⟨_, q, fun v z => by cases z⟩
    by_cases hlt : i < ds.length
    · have I5p := I5.pinned (fp := [D]) (fun b hb => by have e : b = D := by simpa using hb
                                                        subst e; exact Dp) Dob
      rw [List.nil_append] at I5p
      have ner : ∀ b ∈ fp, ∀ p ∈ pinsAt [D] s5.heap, p.1 ≠ b := fun b hb p hp z => by
        have e : p.1 = D := by simpa using (of_pinsAt hp).1
        exact fpD b hb (z.symm.trans e)
      have fp5' : ∀ b ∈ fp, FpOk (compCx X (x :: cs.map (·.1)) scope (D + 1) s2 H2 fp) (pinsAt [D] s5.heap) H5 b := fun b hb => ⟨fr5 b hb, nC b hb, I4.ok.exfs b hb, .inl hb, (I4.ok.exf b hb).2, fun p hp => ner b hb p (by simpa [compCx] using hp)⟩
      refine thn (T.item (compCx X (x :: cs.map (·.1)) scope (D + 1) s2 H2 fp) rfl rfl rfl hc i (pinsAt [D] s5.heap) s5 σ5 H5 _ I5p fp5' t5 (wk.go i H5 e5 hlt)) fun r s6 ⟨u, hr, h6⟩ => ?_
      subst hr
      have goal : wpAny (model X.prog X.w) X.A (letOwnedTupleGo (.Name x px) (.ref it) u >>= fun _ => assign (.Name x px) (compEnvC scope (clOf scope.names X.env []) (D + 1) X.env) u) (fun _ s₂ =>
          wpAny (model X.prog X.w) X.A (forIn ifs true fun c r => if r = true then do let ok ← isTrue c (compEnvC scope (clOf scope.names X.env []) (D + 1) X.env) (eval c (compEnvC scope (clOf scope.names X.env []) (D + 1) X.env)); pure (ForInStep.yield ok) else pure (ForInStep.yield r)) (fun ok s₃ =>
            if ok = true then wpAny (model X.prog X.w) X.A (eval elt (compEnvC scope (clOf scope.names X.env []) (D + 1) X.env)) (fun xw s₄ =>
              wpAny (model X.prog X.w) X.A (call (.builtin "list.append") [.ref D, xw]) (fun _ s₅ => ∃ m, m < ds.length - i ∧ CompI X x cs scope D s2 H2 fp tn ds ys tst fe ρ m s₅) (notedBy (model X.prog X.w) X.A (compEnvC scope (clOf scope.names X.env []) (D + 1) X.env) fun e s' => compPost (model X.prog X.w) X.A X.xe none (EP X pins σ Q) (.ref D) (D + 1) (.error e) s') s₄) (notedBy (model X.prog X.w) X.A (compEnvC scope (clOf scope.names X.env []) (D + 1) X.env) fun e s' => compPost (model X.prog X.w) X.A X.xe none (EP X pins σ Q) (.ref D) (D + 1) (.error e) s') s₃
            else ∃ m, m < ds.length - i ∧ CompI X x cs scope D s2 H2 fp tn ds ys tst fe ρ m s₃) (notedBy (model X.prog X.w) X.A (compEnvC scope (clOf scope.names X.env []) (D + 1) X.env) fun e s' => compPost (model X.prog X.w) X.A X.xe none (EP X pins σ Q) (.ref D) (D + 1) (.error e) s') s₂) (notedBy (model X.prog X.w) X.A (compEnvC scope (clOf scope.names X.env []) (D + 1) X.env) fun e s' => compPost (model X.prog X.w) X.A X.xe none (EP X pins σ Q) (.ref D) (D + 1) (.error e) s') s6 := by
        refine wpAny_bind (thn h6 fun _ s7 ⟨xv, H7, I7, r7, y7, t7, fr7⟩ => ?_)
        obtain ⟨rfl, d, hd, rd⟩ := wk.yld i H5 xv H7 e5 hlt y7
        rw [drop_cons hd] at hz
        have I7p := I7.pinned (fp := fp) (fun b hb => ⟨fr7 b hb, nC b hb, I4.ok.exfs b hb, .inl hb, (I4.ok.exf b hb).2, fun p hp => ner b hb p (by simpa [compCx] using hp)⟩) (T.obj _ _ t7)
        have fin : ∀ {σ8 : L2.St} {H8 : Hp} {s8 : Shared}, Inv (compCx X (x :: cs.map (·.1)) scope (D + 1) s2 H2 fp) (pinsAt [D] s5.heap ++ pinsAt fp s7.heap) σ8 H8 s8 → tn (i + 1) s8.heap ∧ (∀ b ∈ fp, H8 b = none) ∧ H8 D = none ∧ LAt s8.heap D its := fun {σ8 H8 s8} I8 => by
          refine ⟨T.keep _ _ _ t7 fun b hb o e => (I8.pin (b, o) (List.mem_append_right _ (List.mem_append_right _ (mem_pinsAt hb e)))).1, fun b hb => ?_, ?_, ?_⟩
          · obtain ⟨o, e, _⟩ := T.obj _ _ t7 b hb
            exact (I8.pin (b, o) (List.mem_append_right _ (List.mem_append_right _ (mem_pinsAt hb e)))).2.1
          · obtain ⟨n, q⟩ := l5
            exact (I8.pin (D, _) (List.mem_append_right _ (List.mem_append_left _ (mem_pinsAt (by simp) q)))).2.1
          · obtain ⟨n, q⟩ := l5
            exact ⟨n, (I8.pin (D, _) (List.mem_append_right _ (List.mem_append_left _ (mem_pinsAt (by simp) q)))).1⟩
        refine wpAny_mono (pg_name (X := compCx X (x :: cs.map (·.1)) scope (D + 1) s2 H2 fp) (i := 0) ok.nd rfl (.inl (lookup_relabel_local ok.tgt)) (.inr (lookup_relabel_local ok.tgt)) _ s7 σ5 H7 xv u (fun σ8 H8 => H8 = H7 ∧ Envs X.K H7 σ8 ((capE cs ρ).set 0 (some d))) I7p r7 ⟨rfl, E5.set rd⟩) (fun _ s8 ⟨σ8, H8, I8, q8⟩ => ?_) fun _ _ z => False.elim z
        obtain ⟨rfl, E8⟩ := q8
        have back : ∀ {σ9 : L2.St} {H9 : Hp}, Same H8 H9 → Envs X.K H9 σ9 ((capE cs ρ).set 0 (some d)) → Envs X.K H9 σ9 (capE cs ρ) := fun {σ9 H9} e9 E9 => by
          have q := E9.fgt1 0
          have e : ((capE cs ρ).set 0 (some d)).set 0 none = capE cs ρ := rfl
          rw [e] at q
          exact q
        have took : ∀ {H9 : Hp} {s9 : Shared}, Inv (compCx X (x :: cs.map (·.1)) scope (D + 1) s2 H2 fp) (pinsAt [D] s5.heap ++ pinsAt fp s7.heap) σ8 H9 s9 → Same H8 H9 →
            (match (match fe ((capE cs ρ).set 0 (some d)) with | some (.ok y) => (match mapF tst fe (capE cs ρ) (ds.drop (i + 1)) with | some ys => some (y :: ys) | none => none) | _ => none) with | some zs => es ++ zs = ys | none => False) →
            wpAny (model X.prog X.w) X.A (eval elt (compEnvC scope (clOf scope.names X.env []) (D + 1) X.env)) (fun xw s₄ =>
              wpAny (model X.prog X.w) X.A (call (.builtin "list.append") [.ref D, xw]) (fun _ s₅ => ∃ m, m < ds.length - i ∧ CompI X x cs scope D s2 H2 fp tn ds ys tst fe ρ m s₅) (notedBy (model X.prog X.w) X.A (compEnvC scope (clOf scope.names X.env []) (D + 1) X.env) fun e s' => compPost (model X.prog X.w) X.A X.xe none (EP X pins σ Q) (.ref D) (D + 1) (.error e) s') s₄) (notedBy (model X.prog X.w) X.A (compEnvC scope (clOf scope.names X.env []) (D + 1) X.env) fun e s' => compPost (model X.prog X.w) X.A X.xe none (EP X pins σ Q) (.ref D) (D + 1) (.error e) s') s9 := fun {H9 s9} I9 e9 hz9 => by
          match hfe : fe ((capE cs ρ).set 0 (some d)), hz9 with
          | none, hz9 => exact hz9.elim
          | some (.exc c), hz9 => exact hz9.elim
          | some (.ok y), hz9 =>
            refine wpAny_mono ((helt (D + 1) s2 H2 fp).h _ s9 σ8 H9 (fun v H10 => Same H9 H10 ∧ Rep X.K H10 y v) I9 ⟨(capE cs ρ).set 0 (some d), E8.mono e9, by rw [hfe]; exact fun v H10 e10 r10 => ⟨e10, r10⟩⟩) (fun w s10 ⟨yv, H10, I10, rw10, e10, r10⟩ => ?_) fun _ _ z => False.elim z
            obtain ⟨t10, fr10, D10, l10⟩ := fin I10
            refine lat_append l10 (by omega) fun h11 l11 k11 => ?_
            have I10' : Inv (compCx X (x :: cs.map (·.1)) scope (D + 1) s2 H2 fp) (pinsAt fp s7.heap) σ8 H10 s10 := I10.pins_of fun p hp => I10.pin p (List.mem_append_right _ (List.mem_append_right _ hp))
            have I11 : Inv (compCx X (x :: cs.map (·.1)) scope (D + 1) s2 H2 fp) (pinsAt fp s7.heap) σ8 H10 { s10 with heap := h11 } := I10'.turned (t' := s10.toks) k11 D10 DL (.inr (Nat.le_of_eq hD)) Dcell fun p hp z => by
              have hp' : p ∈ pinsAt fp s7.heap := by simpa [compCx] using hp
              exact fpD p.1 (of_pinsAt hp').1 z
            have e80 := e9.trans e10
            refine ⟨ds.length - (i + 1), by omega, i + 1, σ8, H10, es ++ [y], vs ++ [yv], its ++ [w], rfl, hlt, I11.pins_of fun p hp => absurd hp (by simp), back e80 (E8.mono e80), T.keep _ _ _ t10 fun b hb o e => k11 b o (fpD b hb) e, fr10, D10, l11, v5.append (.cons rw10 .nil), (Reps.mono e80 _ _ r5).append ⟨yv, [], rfl, r10, rfl⟩, by rw [List.length_append, List.length_singleton]; omega, e5.trans e80, ?_⟩
            match hm2 : mapF tst fe (capE cs ρ) (ds.drop (i + 1)), hz9 with
            | none, hz9 => exact hz9.elim
            | some zs, hz9 => dsimp only at hz9 ⊢; rw [List.append_assoc]; exact hz9
        unfold mapF at hz
        have hif := hifs (D + 1) s2 H2 fp
        cases tst with
        | none =>
          cases (show ifs = [] from hif)
          exact wpAny_tests_nil (by rw [if_pos rfl]; exact took I8 (.refl H8) hz)
        | some t =>
          obtain ⟨c, rfl, hct⟩ := hif
          match htt : t ((capE cs ρ).set 0 (some d)), hz with
          | none, hz => simp only [htt] at hz
          | some (.exc c), hz => simp only [htt] at hz
          | some (.ok true), hz =>
            simp only [htt] at hz
            refine wpAny_tests_one (wpAny_mono (hct.h _ s8 σ8 H8 (fun b H9 => b = true ∧ Same H8 H9) I8 ⟨_, E8, by rw [htt]; exact fun H9 e9 => ⟨rfl, e9⟩⟩) (fun b s9 ⟨H9, I9, hb, e9⟩ => ?_) fun _ _ z => False.elim z)
            subst hb
            rw [if_pos rfl]
            exact took I9 e9 hz
          | some (.ok false), hz =>
            simp only [htt] at hz
            refine wpAny_tests_one (wpAny_mono (hct.h _ s8 σ8 H8 (fun b H9 => b = false ∧ Same H8 H9) I8 ⟨_, E8, by rw [htt]; exact fun H9 e9 => ⟨rfl, e9⟩⟩) (fun b s9 ⟨H9, I9, hb, e9⟩ => ?_) fun _ _ z => False.elim z)
            subst hb
            rw [if_neg Bool.false_ne_true]
            obtain ⟨t9, fr9, D9, l9⟩ := fin I9
            exact ⟨ds.length - (i + 1), by omega, i + 1, σ8, H9, es, vs, its, rfl, hlt, I9.pins_of fun p hp => absurd hp (by simp), back e9 (E8.mono e9), t9, fr9, D9, l9, v5, Reps.mono e9 _ _ r5, by omega, e5.trans e9, hz⟩
      exact goal
    · have hi' : i = ds.length := by omega
      subst hi'
      rw [List.drop_length] at hz
      have hz' : es ++ [] = ys := hz
      rw [List.append_nil] at hz'
      subst hz'
      refine thn (T.done (compCx X (x :: cs.map (·.1)) scope (D + 1) s2 H2 fp) rfl rfl rfl hc ds.length (pinsAt [D] s5.heap) s5 σ5 H5 _ (by
          have q := I5.pinned (fp := [D]) (fun b hb => by have e : b = D := by simpa using hb
                                                          subst e; exact Dp) Dob
          rw [List.nil_append] at q
          exact q) (fun b hb => ⟨fr5 b hb, nC b hb, I4.ok.exfs b hb, .inl hb, (I4.ok.exf b hb).2, fun p hp z => by
            have hp' : p ∈ pinsAt [D] s5.heap := by simpa [compCx] using hp
            have e : p.1 = D := by simpa using (of_pinsAt hp').1
            exact fpD b hb (z.symm.trans e)⟩) t5 (wk.stop H5 e5)) fun r s6 ⟨hr, I6⟩ => ?_
      subst hr
      have l6 : LAt s6.heap D its := by
        obtain ⟨n, q⟩ := l5
        exact ⟨n, (I6.pin (D, _) (List.mem_append_right _ (mem_pinsAt (by simp) q))).1⟩
      obtain ⟨m6, n6, _⟩ := I6.loc
      refine ⟨m6, n6, fun h7 sb7 => ?_⟩
      have k7 : ∀ b o, b ≠ D + 1 → s6.heap.get? b = some o → h7.get? b = some o := fun b o hb e => sb7.extBut b o hb e
      have C6 : H5 (D + 1) = none := I6.free
      have new : ObjOk X.prog X.w (upd H5 D (.lst vs)) h7 D (.lst vs) := by
        obtain ⟨n, q⟩ := l6
        exact ⟨by rw [lenR]; exact le_line hyl, its, n, v5, k7 D _ ad_s q⟩
      have u6 : Un (frs X.stack) fp H2 H5 s2.heap s6.heap := I6.base
      have nD : ∀ b o, s2.heap.get? b = some o → b ≠ D ∧ b ≠ D + 1 := fun b o e => by
        have hb : b < D := by rw [← hD]; exact Heap.lt_size e
        exact ⟨ad_ne hb, ad_ne1 hb⟩
      have u7 : Un (frs X.stack) fp H2 (upd H5 D (.lst vs)) s2.heap h7 := ⟨fun b o e n hb hx => k7 b o (nD b o e).2 (u6.keep b o e n hb hx), fun b o e n hb hx => by
          obtain ⟨sl, q⟩ := u6.slot b o e n hb hx
          exact ⟨sl, k7 b _ (nD b o e).2 q⟩, fun b o e n hx => by rw [upd_ne (nD b o e).1]; exact u6.free b o e n hx, fun b o e hx => by
          obtain ⟨o', q⟩ := u6.there b o e hx
          exact ⟨o', k7 b _ (nD b o e).2 q⟩, fun b xs q => by
          have q' := u6.tups b xs q
          rw [upd_ne (ne_of_none q' D5)]; exact q', fun b o u q => by
          have q' := u6.frzs b o u q
          rw [upd_ne (ne_of_none q' D5)]; exact q', fun b ps q => by
          obtain ⟨more, q'⟩ := u6.tbls b ps q
          exact ⟨more, by rw [upd_ne (ne_of_none q' D5)]; exact q'⟩⟩
      have I7 : Inv X pins σ (upd H5 D (.lst vs)) { s6 with heap := h7 } := I2.call' (s' := { s6 with heap := h7 }) (ch := fp) I6.os u7 (HOk.add I6.hok D5 C6 k7 new) I6.bare fun b hb => ⟨(f2 b hb).2.2.2.1, (f2 b hb).2.1, (f2 b hb).2.2.2.2.1, (f2 b hb).2.2.2.2.2⟩
      exact ⟨.ref D, _, I7, rfl, hQ _ _ (e5.trans (same_new D5 _)) ⟨D, vs, rfl, upd_same, Reps.mono (same_new D5 _) _ _ r5⟩⟩
  exact codeAny_compStart_list (loop _ rfl) (T.self _ 0 _ _ _ (T.keep _ _ _ st2 fun b hb o e => old b o e) (loop _ rfl))
theorem fe_comp {X : Cx} {elt iter : Expr} {x : Str} {px : Pos} {ifs : List Expr} {scope : Scope} {pos : Pos} {src : FnA} {tst : Option FnB} {fe : FnE} (osc : Scope) (N : List Str) (cs : List (Str × Nat)) (hosc : X.env.scope = osc) (hN : X.N = N) (ok : CompOk osc scope x cs N) (hcl : closureFor scope X.env = pure (clOf scope.names X.env [])) (hc : X.calm = true)
    (hi : FI X (.Name x px) iter src) (helt : ∀ C s H fp, FE (compCx X (x :: cs.map (·.1)) scope C s H fp) elt fe) (hifs : ∀ C s H fp, FIfs (compCx X (x :: cs.map (·.1)) scope C s H fp) ifs tst)
    (hs : ∀ x, foldedSetIterable iter X.env x = pure x := by intro _; kernel_rfl) : FE X (.ListComp elt [⟨.Name x px, iter, ifs, 0⟩] scope pos) (fComp cs src tst fe) := by
  subst hosc hN
  exact fe_comp0 cs ok hcl hc hi helt hifs hs
end FD
namespace FD
open PySem PySem.Spec PyProof.Rows L2
section
variable {X : Cx}
def addD : Dv → Dv → Option (Rs Dv)
  | .int i, .int j => some (.ok (.int (i + j)))
  | .str x, .str y => if x.length + y.length ≤ 100000 then some (.ok (.str (x ++ y))) else none
  | .lst a, .lst b => if a.length + b.length ≤ 100000 then some (.ok (.lst (a ++ b))) else none
  | _, _ => none
def rAdd3 : R2 := fun x y H Q => rI0 (fun i j => .int (i + j)) x y H Q ∨ ((∃ i j, x = .str i ∧ y = .str j ∧ i.length + j.length ≤ sizeLine ∧ Q (.str (i ++ j)) H) ∨ rCat x y H Q)
theorem o_add : OpR X (binaryOp .Add) rAdd3 := op_add.or (op_add_str.or op_cat)
theorem g_add : GOp X rAdd3 addD := by
  intro dx dy x y H Q rx ry o
  cases dx <;> cases dy <;> try exact (show False from o).elim
  · rename_i i j
    exact .inl ⟨i, j, rx, ry, o _ H (.refl H) rfl⟩
  · rename_i i j
    simp only [addD] at o
    split at o
    · rename_i hl
      exact .inr (.inl ⟨i, j, rx, ry, le_line hl, o _ H (.refl H) rfl⟩)
    · exact o.elim
  · rename_i a b
    simp only [addD] at o
    split at o
    · rename_i hl
      obtain ⟨p, xs, rfl, h1, q1⟩ := rx.lstE
      obtain ⟨p2, xs2, rfl, h2, q2⟩ := ry.lstE
      refine .inr (.inr ⟨p, p2, xs, xs2, rfl, rfl, h1, h2, by rw [q1.length, q2.length]; exact le_line hl, fun l hl => o _ _ (same_new hl _) ⟨l, _, rfl, upd_same, Reps.mono (same_new hl _) _ _ (q1.append q2)⟩⟩)
    · exact o.elim
def mulD : Dv → Dv → Option (Rs Dv)
  | .int i, .int j => if (-18446744073709551616 < i ∧ i < 18446744073709551616) ∨ (-18446744073709551616 < j ∧ j < 18446744073709551616) then some (.ok (.int (i * j))) else none
  | _, _ => none
theorem g_mul : GOp X (rI CMul fun i j => .int (i * j)) mulD := by
  intro dx dy x y H Q rx ry o
  cases dx <;> cases dy <;> try exact (show False from o).elim
  rename_i i j
  simp only [mulD] at o
  split at o
  · rename_i h
    exact ⟨i, j, rx, ry, h, o _ H (.refl H) rfl⟩
  · exact o.elim
def modD : Dv → Dv → Option (Rs Dv)
  | .int i, .int j => if 0 < j then some (.ok (.int (i % j))) else none
  | _, _ => none
theorem g_mod : GOp X (rI (fun _ j => 0 < j) fun i j => .int (i % j)) modD := by
  intro dx dy x y H Q rx ry o
  cases dx <;> cases dy <;> try exact (show False from o).elim
  rename_i i j
  simp only [modD] at o
  split at o
  · rename_i h
    exact ⟨i, j, rx, ry, h, o _ H (.refl H) rfl⟩
  · exact o.elim
def fdivD : Dv → Dv → Option (Rs Dv)
  | .int i, .int j => if 0 < j ∧ j < 1073741824 then some (.ok (.int (i / j))) else none
  | _, _ => none
theorem g_fdiv : GOp X (rI CDiv fun i j => .int (i / j)) fdivD := by
  intro dx dy x y H Q rx ry o
  cases dx <;> cases dy <;> try exact (show False from o).elim
  rename_i i j
  simp only [fdivD] at o
  split at o
  · rename_i h
    exact ⟨i, j, rx, ry, h, o _ H (.refl H) rfl⟩
  · exact o.elim
def negD : Dv → Option (Rs Dv)
  | .int i => some (.ok (.int (-i)))
  | _ => none
def f1 (g : Dv → Option (Rs Dv)) (fa : FnE) : FnE := fun ρ => bnd (fa ρ) g
theorem fe_neg {a : Expr} {fa : FnE} {pos : Pos} (ha : FE X a fa) : FE X (.UnaryOp .USub a pos) (f1 negD fa) :=
  fe_of (pe_un un_neg ha.h) fun σ H Q ρ E o => ⟨ρ, E, Out.bind o fun d v H1 e r o1 => by
    cases d <;> try exact (show False from o1).elim
    rename_i i
    exact ⟨i, r, o1 _ H1 (.refl H1) rfl⟩⟩
def seq (x y : Str) : Bool := x.cps.toList == y.cps.toList
theorem seq_eq (x y : Str) : (x == y) = seq x y := by
  rw [Bool.eq_iff_iff]
  unfold seq
  obtain ⟨⟨a⟩⟩ := x
  obtain ⟨⟨b⟩⟩ := y
  simp
def eqS : Dv → Dv → Option Bool
  | .non, .non => some true
  | .non, .int _ => some false
  | .int _, .non => some false
  | .non, .bl _ => some false
  | .bl _, .non => some false
  | .non, .str _ => some false
  | .str _, .non => some false
  | .int i, .int j => some (i == j)
  | .bl i, .bl j => some (i == j)
  | .str i, .str j => some (seq i j)
  | .int _, .str _ => some false
  | .str _, .int _ => some false
  | .bl _, .str _ => some false
  | .str _, .bl _ => some false
  | _, _ => none
theorem eqS_ok {K : PySem.W.Frag} {H : Hp} {dx dy : Dv} {x y : V} {b : Bool} (rx : Rep K H dx x) (ry : Rep K H dy y) (h : eqS dx dy = some b) : scal x y = true ∧ decide (x = y) = b := by
  cases dx <;> cases dy <;> (try cases h) <;> (try (cases rx; cases ry; exact ⟨rfl, by first | rfl | exact dec_int | exact dec_bl | (rw [dec_str, seq_eq]) | simp⟩))
def cmpD (p : Int → Int → Bool) : Dv → Dv → Option (Rs Dv)
  | .int i, .int j => some (.ok (.bl (p i j)))
  | _, _ => none
theorem g_cmp (p : Int → Int → Bool) : GOp X (rI0 fun i j => .bl (p i j)) (cmpD p) := by
  intro dx dy x y H Q rx ry o
  cases dx <;> cases dy <;> try exact (show False from o).elim
  rename_i i j
  exact ⟨i, j, rx, ry, o _ H (.refl H) rfl⟩
abbrev gtD := cmpD fun i j => decide (j < i)
def isN : Dv → Dv → Option (Rs Dv)
  | x, .non => some (.ok (.bl (match x with | .non => true | _ => false)))
  | _, _ => none
def notN : Dv → Dv → Option (Rs Dv)
  | x, .non => some (.ok (.bl (match x with | .non => false | _ => true)))
  | _, _ => none
theorem dec_non {K : PySem.W.Frag} {H : Hp} {d : Dv} {v : V} (r : Rep K H d v) : decide (v = .non) = (match d with | .non => true | _ => false) := by
  cases d with
  | non => cases (show v = .non from r); rfl
  | bl b => cases (show v = .bl b from r); rfl
  | int b => cases (show v = .int b from r); rfl
  | str b => cases (show v = .str b from r); rfl
  | tup ds => obtain ⟨a, xs, rfl, _⟩ := r.tupE; rfl
  | lst ds => obtain ⟨a, xs, rfl, _⟩ := r.lstE; rfl
  | scr ds => obtain ⟨a, rfl, _⟩ := r.scrE; rfl
  | exn c =>
    obtain ⟨a, _, _, _, rfl, _⟩ := r.exnE
    rfl
theorem g_isN : GOp X (fun x y H Q => y = .non ∧ Q (.bl (decide (x = .non))) H) isN := by
  intro dx dy x y H Q rx ry o
  cases dy <;> try exact (show False from o).elim
  have q := dec_non rx
  refine ⟨ry, ?_⟩
  have q2 := o _ H (.refl H) rfl
  cases dx <;> (rw [q]; exact q2)
theorem g_notN : GOp X (fun x y H Q => y = .non ∧ Q (.bl (!decide (x = .non))) H) notN := by
  intro dx dy x y H Q rx ry o
  cases dy <;> try exact (show False from o).elim
  have q := dec_non rx
  refine ⟨ry, ?_⟩
  have q2 := o _ H (.refl H) rfl
  cases dx <;> (rw [q]; exact q2)
def inS (x y : Str) : Bool := !(Builtin.Str.occurrences y x 0 y.length 1).isEmpty
def flatD : Dv → Bool
  | .non => true
  | .bl _ => true
  | .int _ => true
  | .str _ => true
  | _ => false
def eqF : Dv → Dv → Bool
  | .non, .non => true
  | .bl a, .bl b => a == b
  | .bl a, .int b => (if a then 1 else 0) == b
  | .int a, .bl b => a == (if b then 1 else 0)
  | .int a, .int b => a == b
  | .str a, .str b => seq a b
  | _, _ => false
def inL (x : Dv) (ys : List Dv) : Option Bool := if flatD x && ys.all flatD then some (ys.any fun y => eqF y x) else none
def inD0 : Dv → Dv → Option Bool
  | .str x, .str y => some (inS x y)
  | x, .lst ys => inL x ys
  | x, .tup ys => inL x ys
  | _, _ => none
def inD (x y : Dv) : Option (Rs Dv) := match inD0 x y with
  | some b => some (.ok (.bl b))
  | none => none
def notInD (x y : Dv) : Option (Rs Dv) := match inD0 x y with
  | some b => some (.ok (.bl (!b)))
  | none => none
theorem flat_ok {K : PySem.W.Frag} {H : Hp} {d : Dv} {v : V} (r : Rep K H d v) (h : flatD d = true) : flatV v = true := by
  cases d <;> first | (cases h; done) | (cases r; rfl)
theorem flats_ok {K : PySem.W.Frag} {H : Hp} : ∀ {ds : List Dv} {vs : List V}, Reps K H ds vs → ds.all flatD = true → vs.all flatV = true
  | [], vs, r, _ => by cases (show vs = [] from r); rfl
  | d :: ds, vs, r, h => by
    obtain ⟨v, us, rfl, r1, r2⟩ : ∃ v us, vs = v :: us ∧ Rep K H d v ∧ Reps K H ds us := r
    rw [List.all_cons, Bool.and_eq_true] at h
    rw [List.all_cons, Bool.and_eq_true]
    exact ⟨flat_ok r1 h.1, flats_ok r2 h.2⟩
theorem eqF_ok {K : PySem.W.Frag} {H : Hp} {d e : Dv} {v u : V} (r : Rep K H d v) (q : Rep K H e u) (h : flatD d = true) (h' : flatD e = true) : eqV v u = eqF d e := by
  cases d <;> first | (cases h; done) | (cases r; cases e <;> first | (cases h'; done) | (cases q; first | rfl | exact seq_eq _ _))
theorem any_ok {K : PySem.W.Frag} {H : Hp} {e : Dv} {u : V} (q : Rep K H e u) (h' : flatD e = true) : ∀ {ds : List Dv} {vs : List V}, Reps K H ds vs → ds.all flatD = true → (vs.any fun y => eqV y u) = ds.any fun y => eqF y e
  | [], vs, r, _ => by cases (show vs = [] from r); rfl
  | d :: ds, vs, r, h => by
    obtain ⟨v, us, rfl, r1, r2⟩ : ∃ v us, vs = v :: us ∧ Rep K H d v ∧ Reps K H ds us := r
    rw [List.all_cons, Bool.and_eq_true] at h
    rw [List.any_cons, List.any_cons, eqF_ok r1 q h.1 h', any_ok q h' r2 h.2]
theorem inL_ok {K : PySem.W.Frag} {H : Hp} {dx : Dv} {ys : List Dv} {x : V} {vs : List V} {b : Bool} (rx : Rep K H dx x) (ry : Reps K H ys vs) (h : inL dx ys = some b) : flatV x = true ∧ vs.all flatV = true ∧ inV x vs = b := by
  unfold inL at h
  split at h
  · rename_i hc
    rw [Bool.and_eq_true] at hc
    cases h
    exact ⟨flat_ok rx hc.1, flats_ok ry hc.2, any_ok rx hc.1 ry hc.2⟩
  · cases h
def rIn2 (K : PySem.W.Frag) : R2 := fun x y H Q => (∃ i j, x = .str i ∧ y = .str j ∧ Q (.bl (!(Builtin.Str.occurrences j i 0 j.length 1).isEmpty)) H) ∨ rIn K false x y H Q
def rNotIn2 (K : PySem.W.Frag) : R2 := fun x y H Q => (∃ i j, x = .str i ∧ y = .str j ∧ Q (.bl (!(!(Builtin.Str.occurrences j i 0 j.length 1).isEmpty))) H) ∨ rIn K true x y H Q
theorem o_in : OpR X (compareOp .In) (rIn2 X.K) := op_in_str.or op_in_seq
theorem o_notIn : OpR X (compareOp .NotIn) (rNotIn2 X.K) := op_notIn_str.or op_notIn_seq
theorem g_in : GOp X (rIn2 X.K) inD := by
  intro dx dy x y H Q rx ry o
  unfold inD at o
  split at o
  · rename_i b hb
    have q := o _ H (.refl H) rfl
    cases dy <;> try (cases dx <;> cases hb; done)
    · rename_i z
      cases dx <;> try (cases hb; done)
      rename_i z'
      cases hb
      exact .inl ⟨z', z, rx, ry, q⟩
    · rename_i ys
      have hb' : inL dx ys = some b := by cases dx <;> exact hb
      obtain ⟨a, vs, rfl, h1, h2⟩ := ry.tupE
      obtain ⟨f1, f2, f3⟩ := inL_ok rx h2 hb'
      exact .inr ⟨a, vs, rfl, .inr (SqT.of h1), f1, f2, by rw [if_neg Bool.false_ne_true, f3]; exact q⟩
    · rename_i ys
      have hb' : inL dx ys = some b := by cases dx <;> exact hb
      obtain ⟨a, vs, rfl, h1, h2⟩ := ry.lstE
      obtain ⟨f1, f2, f3⟩ := inL_ok rx h2 hb'
      exact .inr ⟨a, vs, rfl, .inl (SqL.of h1), f1, f2, by rw [if_neg Bool.false_ne_true, f3]; exact q⟩
  · exact o.elim
theorem g_notIn : GOp X (rNotIn2 X.K) notInD := by
  intro dx dy x y H Q rx ry o
  unfold notInD at o
  split at o
  · rename_i b hb
    have q := o _ H (.refl H) rfl
    cases dy <;> try (cases dx <;> cases hb; done)
    · rename_i z
      cases dx <;> try (cases hb; done)
      rename_i z'
      cases hb
      exact .inl ⟨z', z, rx, ry, q⟩
    · rename_i ys
      have hb' : inL dx ys = some b := by cases dx <;> exact hb
      obtain ⟨a, vs, rfl, h1, h2⟩ := ry.tupE
      obtain ⟨f1, f2, f3⟩ := inL_ok rx h2 hb'
      exact .inr ⟨a, vs, rfl, .inr (SqT.of h1), f1, f2, by rw [if_pos rfl, f3]; exact q⟩
    · rename_i ys
      have hb' : inL dx ys = some b := by cases dx <;> exact hb
      obtain ⟨a, vs, rfl, h1, h2⟩ := ry.lstE
      obtain ⟨f1, f2, f3⟩ := inL_ok rx h2 hb'
      exact .inr ⟨a, vs, rfl, .inl (SqL.of h1), f1, f2, by rw [if_pos rfl, f3]; exact q⟩
  · exact o.elim
def atD {α : Type} (xs : List α) (i : Int) : Option α := if 0 ≤ i then xs[i.toNat]? else if -(xs.length : Int) ≤ i then xs[(i + xs.length).toNat]? else none
theorem atD_atI {α : Type} {xs : List α} {i : Int} {v : α} (h : atD xs i = some v) : atI xs i = some v := by
  unfold atD at h
  unfold atI ixN
  split at h
  · rename_i h0
    have hl : i.toNat < xs.length := by
      obtain ⟨q, _⟩ := List.getElem?_eq_some_iff.mp h
      exact q
    rw [if_pos h0, if_pos (by omega)]
    exact h
  · rename_i h0
    split at h
    · rename_i h1
      rw [if_neg h0, if_pos h1]
      exact h
    · cases h
def ixD : Dv → Dv → Option (Rs Dv)
  | .lst xs, .int i => (match atD xs i with | some d => some (.ok d) | none => none)
  | .tup xs, .int i => (match atD xs i with | some d => some (.ok d) | none => none)
  | .str z, .int i => if z.length ≤ 100000 then (match atD z.cps.toList i with | some c => some (.ok (.str ⟨#[c]⟩)) | none => none) else none
  | .scr ns, .int i => (match atD ns i with | some d => some (.ok (.int d)) | none => none)
  | _, _ => none
theorem atD_len {α β : Type} {xs : List α} {ys : List β} (h : ys.length = xs.length) {i : Int} {x : α} (e : atD xs i = some x) : ∃ j : Nat, xs[j]? = some x ∧ ∀ y, ys[j]? = some y → atD ys i = some y := by
  unfold atD at e
  split at e
  · rename_i h0
    exact ⟨_, e, fun y q => by unfold atD; rw [if_pos h0]; exact q⟩
  · rename_i h0
    split at e
    · rename_i h1
      exact ⟨_, e, fun y q => by unfold atD; rw [if_neg h0, h, if_pos h1]; exact q⟩
    · cases e
theorem g_ix : GOp X (rIx X.K) ixD := by
  intro dx dy x y H Q rx ry o
  cases dx <;> cases dy <;> try exact (show False from o).elim
  · rename_i z i
    simp only [ixD] at o
    split at o
    · rename_i hl
      split at o
      · rename_i c hc
        exact .inr (.inr ⟨z, i, c, rx, ry, le_line hl, atD_atI hc, o _ H (.refl H) rfl⟩)
      · exact o.elim
    · exact o.elim
  · rename_i ds i
    simp only [ixD] at o
    split at o
    · rename_i d hd
      obtain ⟨a, xs, rfl, h1, h2⟩ := rx.tupE
      obtain ⟨j, e1, e2⟩ := atD_len h2.length hd
      obtain ⟨v, e3, r3⟩ := h2.get' e1
      exact .inr (.inl ⟨a, xs, i, v, rfl, ry, SqT.of h1, atD_atI (e2 v e3), o v H (.refl H) r3⟩)
    · exact o.elim
  · rename_i ds i
    simp only [ixD] at o
    split at o
    · rename_i d hd
      obtain ⟨a, xs, rfl, h1, h2⟩ := rx.lstE
      obtain ⟨j, e1, e2⟩ := atD_len h2.length hd
      obtain ⟨v, e3, r3⟩ := h2.get' e1
      exact .inl ⟨a, xs, i, v, rfl, ry, SqL.of h1, atD_atI (e2 v e3), o v H (.refl H) r3⟩
    · exact o.elim
  · rename_i ns i
    simp only [ixD] at o
    split at o
    · rename_i d hd
      obtain ⟨a, rfl, h1⟩ := rx.scrE
      obtain ⟨j, e1, e2⟩ := atD_len (ys := ns.map V.int) (by simp) hd
      exact .inl ⟨a, _, i, .int d, rfl, ry, h1, atD_atI (e2 _ (by rw [List.getElem?_map, e1] <;> rfl)), o _ H (.refl H) rfl⟩
    · exact o.elim
theorem fe_ix {a b : Expr} {fa fb : FnE} {pos : Pos} (ha : FE X a fa) (hb : FE X b fb) (hs : PlainIx b := by intro _ _; kernel_rfl) : FE X (.Subscript a b pos) (f2 ixD fa fb) :=
  fe_of (pe_ix ix_seq ha.h hb.h hs) fun _ _ _ _ E o => two g_ix E o
abbrev FnO := Ev → Option (Rs (Option Int))
def OutO (X : Cx) (H : Hp) (o : Option (Rs (Option Int))) (Q : Option Int → Hp → Prop) : Prop := match o with
  | none => False
  | some (.exc c) => XW X c H
  | some (.ok d) => ∀ H', Same H H' → Q d H'
theorem OutO.mono {H H' : Hp} {Q : Option Int → Hp → Prop} (e : Same H H') : ∀ {o : Option (Rs (Option Int))}, OutO X H o Q → OutO X H' o Q
  | none, h => h
  | some (.exc _), h => XW.mono h e
  | some (.ok _), h => fun H1 e1 => h H1 (e.trans e1)
structure FO (X : Cx) (e : Option Expr) (f : FnO) : Prop where
  h : PO X e fun σ H Q => ∃ ρ, Envs X.K H σ ρ ∧ OutO X H (f ρ) Q
def oNone : FnO := fun _ => some (.ok none)
def toI : Dv → Option (Rs (Option Int))
  | .int i => some (.ok (some i))
  | _ => none
def oSome (f : FnE) : FnO := fun ρ => bnd (f ρ) toI
theorem fo_none : FO X none oNone := ⟨fun pins s σ H Q I ⟨_, _, o⟩ => po_none pins s σ H Q I (o H (.refl H))⟩
theorem fo_some {e : Expr} {fa : FnE} (h : FE X e fa) : FO X (some e) (oSome fa) := ⟨fun pins s σ H Q I ⟨ρ, E, o⟩ => po_some h.h pins s σ H Q I ⟨ρ, E, by
  unfold oSome at o
  match hf : fa ρ, o with
  | none, o => exact o
  | some (.exc c), o => exact o
  | some (.ok d), o =>
    intro v H' e r
    cases d <;> try exact (show False from o).elim
    rename_i i
    exact ⟨i, r, o H' e⟩⟩⟩
def cutL {α : Type} (xs : List α) (lo hi : Option Int) : List α := (xs.drop (HT.sIx xs.length 0 lo)).take (HT.sIx xs.length xs.length hi - HT.sIx xs.length 0 lo)
def rSlS : V → Option Int → Option Int → Hp → VK → Prop := fun x lo hi H Q => ∃ z, x = .str z ∧ z.length ≤ sizeLine ∧ Q (.str (Txt.slice z lo hi)) H
theorem sl_str : SlR X rSlS := by
  intro pins s σ H x v vl vu lo hi sl Q I rx hs pl pu q
  obtain ⟨z, rfl, hz, q⟩ := q
  obtain ⟨t, rfl⟩ := rx
  refine ⟨"str", _, F.slot_str_getitem.lookup, typeIs_str _ _ _, ?_⟩
  have fin : ∀ (t' : Tok) (k : Nat), EP X pins σ Q (.str (Txt.slice z lo hi) t') { s with toks := k } := fun t' k => ⟨.str (Txt.slice z lo hi), H, I.tok _, ⟨_, rfl⟩, q⟩
  cases pl with
  | none =>
    cases pu with
    | none => exact wpAny_getItem_str_slice (l := none) (u := none) (st := none) hs rfl (post_val_or_str ⟨Nat.le_trans (Txt.slice_le z _ _) hz, fun t' k => fin t' k⟩)
    | int j u => exact wpAny_getItem_str_slice (l := none) (u := some (j, u)) (st := none) hs rfl (post_val_or_str ⟨Nat.le_trans (Txt.slice_le z _ _) hz, fun t' k => fin t' k⟩)
  | int i u' =>
    cases pu with
    | none => exact wpAny_getItem_str_slice (l := some (i, u')) (u := none) (st := none) hs rfl (post_val_or_str ⟨Nat.le_trans (Txt.slice_le z _ _) hz, fun t' k => fin t' k⟩)
    | int j u => exact wpAny_getItem_str_slice (l := some (i, u')) (u := some (j, u)) (st := none) hs rfl (post_val_or_str ⟨Nat.le_trans (Txt.slice_le z _ _) hz, fun t' k => fin t' k⟩)
def cutD (x : Dv) (lo hi : Option Int) : Option (Rs Dv) := match x with
  | .str z => if z.length ≤ 100000 then some (.ok (.str (Txt.slice z lo hi))) else none
  | .lst xs => some (.ok (.lst (cutL xs lo hi)))
  | _ => none
def fCut (fa : FnE) (fl fh : FnO) : FnE := fun ρ => bnd (fa ρ) fun x => bnd (fl ρ) fun lo => bnd (fh ρ) fun hi => cutD x lo hi
theorem outO_bind {H : Hp} {Q : VK} {o : Option (Rs (Option Int))} {k : Option Int → Option (Rs Dv)} {P : Option Int → Hp → Prop} (h : Out X H (bnd o k) Q) (hp : ∀ b H', Same H H' → Out X H' (k b) Q → P b H') : OutO X H o P := by
  match o, h with
  | some (.exc _), h => exact h
  | some (.ok d), h => exact fun H1 e => hp d H1 e (Out.mono e h)
theorem fe_cut {a : Expr} {lo hi : Option Expr} {fa : FnE} {fl fh : FnO} {p2 pos : Pos} (ha : FE X a fa) (hl : FO X lo fl) (hh : FO X hi fh) : FE X (.Subscript a (.Slice lo hi none p2) pos) (fCut fa fl fh) :=
  fe_of (pe_slice (sl_str.or sl_list) ha.h hl.h hh.h) fun σ H Q ρ E o => ⟨ρ, E, Out.bind o fun d v H1 e1 r1 o1 => ⟨ρ, E.mono e1, outO_bind o1 fun l H2 e2 o2 => ⟨ρ, (E.mono e1).mono e2, outO_bind o2 fun u H3 e3 o3 => by
    have r3 := Rep.mono e3 d v (Rep.mono e2 d v r1)
    cases d <;> try exact (show False from o3).elim
    · rename_i z
      unfold cutD at o3
      dsimp only at o3
      split at o3
      · rename_i hz
        exact .inl ⟨z, r3, le_line hz, o3 _ H3 (.refl H3) rfl⟩
      · exact o3.elim
    · rename_i ds
      obtain ⟨a', xs, rfl, h1, h2⟩ := r3.lstE
      refine .inr ⟨a', xs, rfl, SqL.of h1, fun p hp => o3 _ _ (same_new hp _) ⟨p, _, rfl, upd_same, Reps.mono (same_new hp _) _ _ ?_⟩⟩
      unfold cutV cutL
      rw [h2.length]
      exact (h2.drop _).take _⟩⟩⟩
def lenD : List Dv → Option (Rs Dv)
  | [.str z] => if z.length ≤ 100000 then some (.ok (.int z.length)) else none
  | [.lst xs] => some (.ok (.int xs.length))
  | [.tup xs] => some (.ok (.int xs.length))
  | [.scr ns] => some (.ok (.int ns.length))
  | _ => none
def fB1 (g : List Dv → Option (Rs Dv)) (ga : FnA) : FnE := fun ρ => bnd (ga ρ) g
variable {x : Str} {p pos : Pos} {e : Expr} {es : List Expr} {ga : FnA}
theorem reps1 {K : PySem.W.Frag} {H : Hp} {d : Dv} {vs : List V} (r : Reps K H [d] vs) : ∃ v, vs = [v] ∧ Rep K H d v := by
  obtain ⟨v, us, rfl, r1, r2⟩ : ∃ v us, vs = v :: us ∧ Rep K H d v ∧ Reps K H [] us := r
  cases (show us = [] from r2)
  exact ⟨v, rfl, r1⟩
theorem reps2 {K : PySem.W.Frag} {H : Hp} {d d2 : Dv} {vs : List V} (r : Reps K H [d, d2] vs) : ∃ v v2, vs = [v, v2] ∧ Rep K H d v ∧ Rep K H d2 v2 := by
  obtain ⟨v, us, rfl, r1, r2⟩ : ∃ v us, vs = v :: us ∧ Rep K H d v ∧ Reps K H [d2] us := r
  obtain ⟨v2, rfl, r3⟩ := reps1 r2
  exact ⟨v, v2, rfl, r1, r3⟩
theorem fe_len (hg : Gl X "len") (hm : X.mg "len" = none) (ha : FA X (e :: es) ga) (he : starEach (e :: es) X.env = (false, eval e X.env) :: starEach es X.env := by kernel_rfl) (hpl : (backTo pos (starEach es X.env)).any (·.1) = false := by kernel_rfl) : FE X (.Call (.Name "len" p) (e :: es) [] pos) (fB1 lenD ga) :=
  fe_of (pe_callB call_len hg hm PySem.boot_len ha.h (by decide) (by decide) he hpl) fun σ H Q ρ E o => ⟨ρ, E, OutA.bind o fun ds vs H1 e1 rs o1 => by
    unfold lenD at o1
    split at o1
    · rename_i z
      split at o1
      · rename_i hz
        obtain ⟨v, rfl, r⟩ := reps1 rs
        cases (show v = .str z from r)
        exact ⟨_, _, rfl, ⟨le_line hz, rfl⟩, o1 _ H1 (.refl H1) rfl⟩
      · exact o1.elim
    · rename_i xs
      obtain ⟨v, rfl, r⟩ := reps1 rs
      obtain ⟨a, ws, rfl, h1, h2⟩ := r.lstE
      exact ⟨_, _, rfl, .inl ⟨ws, SqL.of h1, rfl⟩, o1 _ H1 (.refl H1) (by rw [h2.length]; rfl)⟩
    · rename_i xs
      obtain ⟨v, rfl, r⟩ := reps1 rs
      obtain ⟨a, ws, rfl, h1, h2⟩ := r.tupE
      exact ⟨_, _, rfl, .inr ⟨ws, SqT.of h1, rfl⟩, o1 _ H1 (.refl H1) (by rw [h2.length]; rfl)⟩
    · rename_i ns
      obtain ⟨v, rfl, r⟩ := reps1 rs
      obtain ⟨a, rfl, h1⟩ := r.scrE
      exact ⟨_, _, rfl, .inl ⟨_, h1, rfl⟩, o1 _ H1 (.refl H1) (by rw [List.length_map]; rfl)⟩
    · exact o1.elim⟩
def bools : List Dv → Option (List Bool)
  | [] => some []
  | .bl b :: r => (match bools r with | some bs => some (b :: bs) | none => none)
  | _ => none
def allD : List Dv → Option (Rs Dv)
  | [.lst xs] => (match bools xs with | some bs => some (.ok (.bl (bs.all id))) | none => none)
  | _ => none
theorem bools_ok {K : PySem.W.Frag} {H : Hp} : ∀ {ds : List Dv} {vs : List V} {us : List Value} {bs : List Bool}, Reps K H ds vs → Vals vs us → bools ds = some bs → us = bs.map Value.bool
  | [], vs, us, bs, r, q, h => by
    cases (show vs = [] from r)
    cases q
    cases h
    rfl
  | d :: ds, vs, us, bs, r, q, h => by
    obtain ⟨v, ws, rfl, r1, r2⟩ : ∃ v us, vs = v :: us ∧ Rep K H d v ∧ Reps K H ds us := r
    cases q with
    | cons q1 q2 =>
      cases d <;> try (cases h; done)
      rename_i b
      simp only [bools] at h
      cases hb : bools ds with
      | none => rw [hb] at h; cases h
      | some bs' =>
        rw [hb] at h
        cases h
        cases (show v = .bl b from r1)
        cases q1
        rw [bools_ok r2 q2 hb]
        rfl
theorem call_all : CallR X (.builtin "all") (fun xs H Q => ∃ a vs bs ds, xs = [.ref a] ∧ H a = some (.lst vs) ∧ Reps X.K H ds vs ∧ bools ds = some bs ∧ X.calm = true ∧ Q (.bl (bs.all id)) H) := by
  intro pins s σ H xs us Q I r h
  obtain ⟨a, vs, bs, ds, rfl, h1, h2, h3, hc, q⟩ := h
  obtain ⟨u, rfl, ru⟩ := vals1 r
  cases ru
  obtain ⟨z, its, n, rv, hl, e⟩ := I.lstM h1
  have eb := bools_ok h2 rv h3
  subst eb
  have hL : s.heap.IsList a (bs.map Value.bool).toArray := ⟨_, e, rfl, _, rfl⟩
  have hlt : a < s.heap.objs.size := Heap.lt_size e
  refine call_all_walk (wpAny_pyIter_list hL ?_)
  refine ⟨s.heap.objs.size, [s.heap.objs.size, a], [s.heap.objs.size], (bs.map Value.bool).toArray.size, _, _, fun i => (bs[i]?).getD true, rfl, Walks.list (A := X.A.in1) (I.ok.hd hc) _ a (Nat.ne_of_lt hlt) (bs.map Value.bool).toArray,
    ⟨⟨_, Heap.get?_push_size _ rfl, rfl, rfl⟩, hL.push _⟩, fun i v s' Q' E' hP hQ => ?_, fun h' tk hk => ?_⟩
  · have hP' : (bs.map Value.bool)[i]? = some v := by simpa using hP
    rw [List.getElem?_map] at hP'
    cases hb : bs[i]? with
    | none => rw [hb] at hP'; cases hP'
    | some b =>
      rw [hb] at hP'
      cases hP'
      have hQ2 : Q' ((bs[i]?).getD true) s' := hQ
      rw [hb] at hQ2
      exact wpAny_truthy_bool hQ2
  · have e2 : ((List.range (bs.map Value.bool).toArray.size).all fun i => (bs[i]?).getD true) = bs.all id := by
      rw [List.size_toArray, List.length_map]
      rw [Bool.eq_iff_iff]
      simp only [List.all_eq_true, List.mem_range, id]
      constructor
      · intro hh b hb
        obtain ⟨i, hi, rfl⟩ := List.mem_iff_getElem.mp hb
        simpa [hi] using hh i hi
      · intro hh i hi
        simp only [List.getElem?_eq_getElem hi, Option.getD_some]
        exact hh _ (List.getElem_mem hi)
    rw [e2]
    refine ⟨.bl _, H, I.kept fun b x eb => hk b x (fun hm => ?_) (Heap.get?_push_of_some _ eb), rfl, q⟩
    rw [List.mem_singleton.mp hm] at eb
    exact Nat.lt_irrefl _ (Heap.lt_size eb)
theorem fe_all (hc : X.calm = true) (hg : Gl X "all") (hm : X.mg "all" = none) (ha : FA X (e :: es) ga) (he : starEach (e :: es) X.env = (false, eval e X.env) :: starEach es X.env := by kernel_rfl) (hpl : (backTo pos (starEach es X.env)).any (·.1) = false := by kernel_rfl) : FE X (.Call (.Name "all" p) (e :: es) [] pos) (fB1 allD ga) :=
  fe_of (pe_callB call_all hg hm PyProof.Rows.boot_all ha.h (by decide) (by decide) he hpl) fun σ H Q ρ E o => ⟨ρ, E, OutA.bind o fun ds vs H1 e1 rs o1 => by
    unfold allD at o1
    split at o1
    · rename_i xs
      split at o1
      · rename_i bs hb
        obtain ⟨v, rfl, r⟩ := reps1 rs
        obtain ⟨a, ws, rfl, h1, h2⟩ := r.lstE
        exact ⟨a, ws, bs, xs, rfl, h1, h2, hb, hc, o1 _ H1 (.refl H1) rfl⟩
      · exact o1.elim
    · exact o1.elim⟩
def tyD : Dv → String
  | .non => "NoneType"
  | .bl _ => "bool"
  | .int _ => "int"
  | .str _ => "str"
  | .tup _ => "tuple"
  | .lst _ => "list"
  | .scr _ => "list"
  | .exn _ => "object"
end
end FD
namespace FD
open PySem PySem.Spec PyProof.Rows L2
section
variable {X : Cx} {p pos apos cpos pT : Pos} {e a o : Expr} {es : List Expr} {ga : FnA} {fa fo : FnE}
theorem tyOf_ok {K : PySem.W.Frag} {H : Hp} {d : Dv} {v : V} (r : Rep K H d v) (hs : ∀ ns, d ≠ .scr ns) (hx : ∀ c, d ≠ .exn c) : TyOf K H v (.type (tyD d)) := by
  cases d with
  | non => cases (show v = .non from r); exact .non
  | bl b => cases (show v = .bl b from r); exact .bl b
  | int b => cases (show v = .int b from r); exact .int b
  | str b => cases (show v = .str b from r); exact .str b
  | tup ds => obtain ⟨a, xs, rfl, h, _⟩ := r.tupE; exact .tup h
  | lst ds => obtain ⟨a, xs, rfl, h, _⟩ := r.lstE; exact .lst h
  | scr ns => exact absurd rfl (hs ns)
  | exn c => exact absurd rfl (hx c)
theorem call_isi (T : String) : CallR X (.builtin "isinstance") (fun xs H Q => ∃ x t b, xs = [x, .ty T] ∧ TyOf X.K H x t ∧ PySem.W.kitOne X.K t (.type T) = some b ∧ Q (.bl b) H) := by
  intro pins s σ H xs us Q I r h
  obtain ⟨x, t, b, rfl, ty, hk, q⟩ := h
  obtain ⟨u, w', rfl, ru, rw'⟩ := vals2 r
  cases (show w' = Value.type T from rw')
  exact isinst_ok I ru ty hk fun tk => ⟨.bl b, H, I.tok tk, rfl, q⟩
def isiD (tb : Dv → Bool) : Dv → Option (Rs Dv)
  | .scr _ => none
  | .exn _ => none
  | d => some (.ok (.bl (tb d)))
theorem fe_isi {T : String} {tb : Dv → Bool} (hk : ∀ K d, PySem.W.kitOne K (.type (tyD d)) (.type T) = some (tb d)) (hT : bootBuiltins (Str.ofString T) = some (.type T)) (hn : Str.ofString T ≠ "__name__") (hdT : (Str.ofString T == ("__debug__" : Str)) = false)
    (hg : Gl X "isinstance") (hm : X.mg "isinstance" = none) (hgT : Gl X (Str.ofString T)) (hmT : X.mg (Str.ofString T) = none) (ha : FE X a fa)
    (hs1 : starEach [a, .Name (Str.ofString T) pT] X.env = (false, eval a X.env) :: starEach [.Name (Str.ofString T) pT] X.env := by kernel_rfl) (hs2 : starEach [.Name (Str.ofString T) pT] X.env = (false, eval (.Name (Str.ofString T) pT) X.env) :: starEach [] X.env := by kernel_rfl)
    (hpl : (backTo pos (starEach [.Name (Str.ofString T) pT] X.env)).any (·.1) = false := by kernel_rfl) :
    FE X (.Call (.Name "isinstance" p) [a, .Name (Str.ofString T) pT] [] pos) (f1 (isiD tb) fa) :=
  fe_of (pe_callB (call_isi T) hg hm PyProof.Rows.boot_isinstance (pa_cons ha.h (pa_cons (pe_bltn (v := .ty T) hgT hmT hT rfl hn hdT) pa_nil hs2) hs1) (by decide) (by decide) hs1 hpl) fun σ H Q ρ E o => ⟨ρ, E, Out.bind o fun d v H1 e1 r o1 => by
    show ∃ x t b, [v, V.ty T] = [x, .ty T] ∧ _
    cases d with
    | scr ns => exact o1.elim
    | exn c => exact o1.elim
    | _ => exact ⟨v, _, _, rfl, tyOf_ok r (fun ns z => by cases z) (fun c z => by cases z), hk X.K _, o1 _ H1 (.refl H1) rfl⟩⟩
def tbStr : Dv → Bool
  | .str _ => true
  | _ => false
theorem kit_str (K : PySem.W.Frag) (d : Dv) : PySem.W.kitOne K (.type (tyD d)) (.type "str") = some (tbStr d) := by cases d <;> kernel_rfl
def tbTup : Dv → Bool
  | .tup _ => true
  | _ => false
theorem kit_tup (K : PySem.W.Frag) (d : Dv) : PySem.W.kitOne K (.type (tyD d)) (.type "tuple") = some (tbTup d) := by cases d <;> kernel_rfl
def tbBool : Dv → Bool
  | .bl _ => true
  | _ => false
theorem kit_bool (K : PySem.W.Frag) (d : Dv) : PySem.W.kitOne K (.type (tyD d)) (.type "bool") = some (tbBool d) := by cases d <;> kernel_rfl
def fM (g : Str → List Dv → Option (Rs Dv)) (fo : FnE) (ga : FnA) : FnE := fun ρ => bnd (fo ρ) fun x => match x with
  | .str i => bnd (ga ρ) fun xs => g i xs
  | _ => none
def strB (h : Str → Str → Bool) : Str → List Dv → Option (Rs Dv)
  | x, [.str y] => some (.ok (.bl (h x y)))
  | _, _ => none
def rStrB (h : Str → Str → Bool) : V → List V → Hp → VK → Prop := fun x xs H Q => ∃ i j, x = .str i ∧ xs = [.str j] ∧ Q (.bl (h i j)) H
theorem mt_sw : MtR X "str.startswith" (rStrB Txt.startswith) := by
  intro pins s σ H x xs v us Q I rx rs h
  obtain ⟨i, j, rfl, rfl, q⟩ := h
  obtain ⟨t, rfl⟩ := rx
  obtain ⟨u, rfl, ru⟩ := vals1 rs
  obtain ⟨t', rfl⟩ := ru
  exact SC.startswith ⟨.bl _, H, I, rfl, q⟩
theorem mt_ew : MtR X "str.endswith" (rStrB Txt.endswith) := by
  intro pins s σ H x xs v us Q I rx rs h
  obtain ⟨i, j, rfl, rfl, q⟩ := h
  obtain ⟨t, rfl⟩ := rx
  obtain ⟨u, rfl, ru⟩ := vals1 rs
  obtain ⟨t', rfl⟩ := ru
  exact SC.endswith ⟨.bl _, H, I, rfl, q⟩
theorem fe_strM {name : Str} {id : String} {r : V → List V → Hp → VK → Prop} {g : Str → List Dv → Option (Rs Dv)} (slot : Slot "str" name id) (hty : typeOf (.builtin id) = pure (.type "method_descriptor")) (hm : MtR X id r)
    (hg : ∀ i ds vs H Q, Reps X.K H ds vs → Out X H (g i ds) Q → r (.str i) vs H Q) (ho : FE X o fo) (ha : FA X (e :: es) ga)
    (hbase : attributeBase o name X.env (eval o X.env) = eval o X.env := by kernel_rfl)
    (hfew : ((backTo cpos (starEach (e :: es) X.env)).all (fun x => !x.1) && (backToKw cpos (keywordEach [] X.env)).all (fun x => x.1.isSome)
      && decide ((e :: es).length + ([] : List Keyword).length + (if ([] : List Keyword).isEmpty then 0 else 1) < 30)) = true := by kernel_rfl)
    (hline : (apos.endLine == cpos.line) = true := by kernel_rfl) (hs : starEach (e :: es) X.env = (false, eval e X.env) :: starEach es X.env := by kernel_rfl) (hplain : (backTo cpos (starEach es X.env)).any (·.1) = false := by kernel_rfl) :
    FE X (.Call (.Attribute o name apos) (e :: es) [] cpos) (fM g fo ga) :=
  fe_of (pe_bm PySem.F.plainAttrs_str slot hty hm ho.h ha.h hbase hfew hline hs hplain) fun σ H Q ρ E o => ⟨ρ, E, Out.bind o fun d v H1 e1 rd o1 => by
    cases d <;> try exact (show False from o1).elim
    rename_i i
    cases (show v = .str i from rd)
    exact ⟨rfl, ρ, E.mono e1, OutA.bind o1 fun ds vs H2 e2 rs o2 => hg i ds vs H2 Q rs o2⟩⟩
theorem g_strB {h : Str → Str → Bool} (i : Str) (ds : List Dv) (vs : List V) (H : Hp) (Q : VK) (rs : Reps X.K H ds vs) (o : Out X H (strB h i ds) Q) : rStrB h (.str i) vs H Q := by
  unfold strB at o
  split at o
  · rename_i j
    obtain ⟨w, rfl, rw'⟩ := reps1 rs
    cases (show w = .str j from rw')
    exact ⟨i, j, rfl, rfl, o _ H (.refl H) rfl⟩
  · exact o.elim
def rScr (K : PySem.W.Frag) : R2 := fun x y H Q => ∃ (a b : Addr) (ns : List Int), x = .ref a ∧ y = .ref b ∧ SqL K H a (ns.map V.int) ∧ H b = some (.lst []) ∧ Q (.bl ns.isEmpty) H
theorem o_scr (hu : X.A.units < cLine) : OpR X (compareOp .Eq) (rScr X.K) := by
  intro pins s σ H x y v u Q I rx ry h
  obtain ⟨a, b, ns, rfl, rfl, h1, h2, q⟩ := h
  cases rx
  cases ry
  obtain ⟨its, r, pl, hz⟩ := I.list h1
  obtain ⟨z2, its2, n2, r2, hl2, e2⟩ := I.lstM h2
  cases r2
  have hb : s.heap.IsList b #[] := ⟨_, e2, rfl, _, rfl⟩
  have hl := r.length
  cases ns with
  | nil =>
    have e0 : its = [] := by cases its with | nil => rfl | cons _ _ => simp at hl
    subst e0
    exact SeqAt.eq_listAt (e := fun _ => true) pl.isList hb rfl hu (fun i hi => absurd hi (by simp)) (by first | exact ⟨.bl _, H, I, rfl, q⟩ | (refine ⟨.bl _, H, I, ?_, q⟩; simp [RelV]))
  | cons n ns =>
    refine SeqAt.eq_list_lengthsAt pl.isList hb ?_ hu ⟨.bl _, H, I, rfl, q⟩
    have : 0 < its.length := by rw [← hl]; simp
    simp
    exact fun z => by rw [z] at this; simp at this
def scrD : Dv → Dv → Option (Rs Dv)
  | .scr ns, .lst [] => some (.ok (.bl ns.isEmpty))
  | _, _ => none
theorem g_scr : GOp X (rScr X.K) scrD := by
  intro dx dy x y H Q rx ry o
  unfold scrD at o
  split at o
  · rename_i ns
    obtain ⟨a, rfl, h1⟩ := rx.scrE
    obtain ⟨b, xs, rfl, h2, h3⟩ := ry.lstE
    cases (show xs = [] from h3)
    exact ⟨a, b, ns, rfl, rfl, h1, h2, o _ H (.refl H) rfl⟩
  · exact o.elim
end
end FD
namespace FD
open PySem
theorem bt_str : bootBuiltins (Str.ofString "str") = some (.type "str") := PyProof.Rows.boot_str
theorem bt_tuple : bootBuiltins (Str.ofString "tuple") = some (.type "tuple") := by decide +kernel
theorem bt_bool : bootBuiltins (Str.ofString "bool") = some (.type "bool") := by decide +kernel
end FD
namespace FD
open PySem PySem.Spec PyProof.Rows L2
mutual
def toPy : Dv → PyData
  | .non => .none
  | .bl b => .bool b
  | .int i => .int i
  | .str x => .str x
  | .tup xs => .tuple (toPys xs)
  | .lst xs => .list (toPys xs)
  | .scr ns => .list (ns.map PyData.int)
  | .exn _ => .dict []
def toPys : List Dv → List PyData
  | [] => []
  | d :: ds => toPy d :: toPys ds
end
section
variable {X : Cx} {pins : List (Addr × Obj)} {σ : L2.St} {H : Hp} {s : Shared}
theorem ints_reads : ∀ {ns : List Int} {us : List Value}, Vals (ns.map V.int) us → ∃ as, ReadsAll s.heap us (ns.map PyData.int) as
  | [], us, r => by cases r; exact ⟨_, .nil⟩
  | n :: ns, us, r => by
    cases r with
    | cons r1 r2 =>
      obtain ⟨t, rfl⟩ := r1
      obtain ⟨as, q⟩ := ints_reads r2
      exact ⟨_, .cons (.int n t) q⟩
mutual
theorem Rep.reads (I : Inv X pins σ H s) : ∀ (d : Dv) (v : V) (u : Value), Rep X.K H d v → RelV v u → (toPy d).canLay0 = true → ∃ as, Reads s.heap u (toPy d) as
  | .non, v, u, r, q, hz0 => by cases (show v = .non from r); cases (show u = Value.none from q); exact ⟨_, .none⟩
  | .bl b, v, u, r, q, hz0 => by cases (show v = .bl b from r); cases (show u = Value.bool b from q); exact ⟨_, .bool b⟩
  | .int i, v, u, r, q, hz0 => by cases (show v = .int i from r); obtain ⟨t, rfl⟩ := (show ∃ t, u = Value.int i t from q); exact ⟨_, .int i t⟩
  | .str x, v, u, r, q, hz0 => by cases (show v = .str x from r); obtain ⟨t, rfl⟩ := (show ∃ t, u = Value.str x t from q); exact ⟨_, .str x t⟩
  | .tup ds, v, u, r, q, hz0 => by
    obtain ⟨a, xs, rfl, h, rs⟩ := r.tupE
    cases (show u = Value.ref a from q)
    obtain ⟨its, rv, ⟨o, e, c, n, d⟩, hz⟩ := I.tuple (SqT.of h)
    obtain ⟨as, ra⟩ := Reps.reads I ds xs its rs rv (by simpa [toPy, PyData.canLay0] using hz0)
    exact ⟨as, .tuple e c d (by simpa using ra)⟩
  | .lst ds, v, u, r, q, hz0 => by
    obtain ⟨a, xs, rfl, h, rs⟩ := r.lstE
    cases (show u = Value.ref a from q)
    obtain ⟨z, its, n, rv, hl, e⟩ := I.lstM h
    obtain ⟨as, ra⟩ := Reps.reads I ds xs its rs rv (by simpa [toPy, PyData.canLay0] using hz0)
    exact ⟨a :: as, .list e rfl rfl (by simpa using ra)⟩
  | .scr ns, v, u, r, q, hz0 => by
    obtain ⟨a, rfl, h⟩ := r.scrE
    cases (show u = Value.ref a from q)
    obtain ⟨its, rv, ⟨o, n, e, c, hd, d⟩, hz⟩ := I.list h
    obtain ⟨as, ra⟩ := ints_reads (s := s) rv
    exact ⟨a :: as, .list e c d (by simpa using ra)⟩
  | .exn c, v, u, r, q, hz0 => by simp [toPy, PyData.canLay0] at hz0
theorem Reps.reads (I : Inv X pins σ H s) : ∀ (ds : List Dv) (vs : List V) (us : List Value), Reps X.K H ds vs → Vals vs us → PyData.canLayAll0 (toPys ds) = true → ∃ as, ReadsAll s.heap us (toPys ds) as
  | [], vs, us, r, q, _ => by cases (show vs = [] from r); cases q; exact ⟨_, .nil⟩
  | d :: ds, vs, us, r, q, hz0 => by
    obtain ⟨v, ws, rfl, r1, r2⟩ : ∃ v us, vs = v :: us ∧ Rep X.K H d v ∧ Reps X.K H ds us := r
    cases q with
    | cons q1 q2 =>
      have hz1 : (toPy d).canLay0 = true ∧ PyData.canLayAll0 (toPys ds) = true := by simpa [toPys, PyData.canLayAll0] using hz0
      obtain ⟨as, a⟩ := Rep.reads I d v _ r1 q1 hz1.1
      obtain ⟨bs, b⟩ := Reps.reads I ds ws _ r2 q2 hz1.2
      exact ⟨_, .cons a b⟩
end
end
section
variable {X : Cx}
def okP (d : Dv) : Bool := SeqAt.shaped (toPy d)
def rPy (X : Cx) (neg : Bool) : R2 := fun x y H Q => ∃ dx dy, Rep X.K H dx x ∧ Rep X.K H dy y ∧ okP dx = true ∧ okP dy = true ∧ Q (.bl (if neg then !PyData.eqv (toPy dx) (toPy dy) else PyData.eqv (toPy dx) (toPy dy))) H
theorem op_eqP (hu : X.A.units + 64 < cLine) : OpR X (compareOp .Eq) (rPy X false) := by
  intro pins s σ H x y v u Q I rx ry h
  obtain ⟨dx, dy, qx, qy, hx, hy, q⟩ := h
  obtain ⟨as, ra⟩ := Rep.reads I dx x v qx rx (Bool.and_eq_true_iff.mp hx).1
  obtain ⟨bs, rb⟩ := Rep.reads I dy y u qy ry (Bool.and_eq_true_iff.mp hy).1
  exact SeqAt.compareEq_shaped ra rb hx hy hu ⟨.bl _, H, I, rfl, q⟩
theorem op_neP (hu : X.A.units + 64 < cLine) : OpR X (compareOp .NotEq) (rPy X true) := by
  intro pins s σ H x y v u Q I rx ry h
  obtain ⟨dx, dy, qx, qy, hx, hy, q⟩ := h
  obtain ⟨as, ra⟩ := Rep.reads I dx x v qx rx (Bool.and_eq_true_iff.mp hx).1
  obtain ⟨bs, rb⟩ := Rep.reads I dy y u qy ry (Bool.and_eq_true_iff.mp hy).1
  exact SeqAt.compareNe_shaped ra rb hx hy hu ⟨.bl _, H, I, rfl, q⟩
def eqX (x y : Dv) : Option (Rs Dv) := match eqS x y with
  | some b => some (.ok (.bl b))
  | none => if okP x && okP y then some (.ok (.bl (PyData.eqv (toPy x) (toPy y)))) else none
def neX (x y : Dv) : Option (Rs Dv) := match eqS x y with
  | some b => some (.ok (.bl (!b)))
  | none => if okP x && okP y then some (.ok (.bl (!PyData.eqv (toPy x) (toPy y)))) else none
def rEqX (X : Cx) : R2 := fun x y H Q => rEq x y H Q ∨ rPy X false x y H Q
def rNeX (X : Cx) : R2 := fun x y H Q => rNe x y H Q ∨ rPy X true x y H Q
theorem o_eqX (hu : X.A.units + 64 < cLine) : OpR X (compareOp .Eq) (rEqX X) := op_eq.or (op_eqP hu)
theorem o_neX (hu : X.A.units + 64 < cLine) : OpR X (compareOp .NotEq) (rNeX X) := op_ne.or (op_neP hu)
theorem g_eqX : GOp X (rEqX X) eqX := by
  intro dx dy x y H Q rx ry o
  unfold eqX at o
  split at o
  · rename_i b hb
    obtain ⟨h1, h2⟩ := eqS_ok rx ry hb
    exact .inl ⟨h1, by rw [h2]; exact o _ H (.refl H) rfl⟩
  · split at o
    · rename_i hc
      rw [Bool.and_eq_true] at hc
      exact .inr ⟨dx, dy, rx, ry, hc.1, hc.2, o _ H (.refl H) rfl⟩
    · exact o.elim
theorem g_neX : GOp X (rNeX X) neX := by
  intro dx dy x y H Q rx ry o
  unfold neX at o
  split at o
  · rename_i b hb
    obtain ⟨h1, h2⟩ := eqS_ok rx ry hb
    exact .inl ⟨h1, by rw [h2]; exact o _ H (.refl H) rfl⟩
  · split at o
    · rename_i hc
      rw [Bool.and_eq_true] at hc
      exact .inr ⟨dx, dy, rx, ry, hc.1, hc.2, o _ H (.refl H) rfl⟩
    · exact o.elim
def ltX : Dv → Dv → Option (Rs Dv)
  | .int i, .int j => some (.ok (.bl (decide (i < j))))
  | .str x, .str y => some (.ok (.bl (decide (x.cps.toList < y.cps.toList))))
  | _, _ => none
def rLtX : R2 := fun x y H Q => rI0 (fun i j => .bl (decide (i < j))) x y H Q ∨ ∃ i j, x = .str i ∧ y = .str j ∧ Q (.bl (decide (i.cps.toList < j.cps.toList))) H
theorem o_ltX : OpR X (compareOp .Lt) rLtX := op_lt.or op_lt_str
theorem g_ltX : GOp X rLtX ltX := by
  intro dx dy x y H Q rx ry o
  cases dx <;> cases dy <;> try exact (show False from o).elim
  · rename_i i j
    exact .inl ⟨i, j, rx, ry, o _ H (.refl H) rfl⟩
  · rename_i i j
    exact .inr ⟨i, j, rx, ry, o _ H (.refl H) rfl⟩
theorem vals_strs : ∀ (ps : List Str) (k : Nat), Vals (ps.map V.str) (strsFrom k ps)
  | [], _ => .nil
  | p :: ps, k => .cons ⟨k, rfl⟩ (vals_strs ps (k + 1))
theorem reps_strs {K : PySem.W.Frag} {H : Hp} : ∀ ps : List Str, Reps K H (ps.map Dv.str) (ps.map V.str)
  | [] => rfl
  | p :: ps => ⟨.str p, ps.map V.str, rfl, rfl, reps_strs ps⟩
def splitD : Str → List Dv → Option (Rs Dv)
  | x, [.str y] => if y.length ≠ 0 ∧ x.length ≤ 100000 ∧ (Txt.split x y).length ≤ 100000 then some (.ok (.lst ((Txt.split x y).map Dv.str))) else none
  | _, _ => none
def rSplit : V → List V → Hp → VK → Prop := fun x xs H Q => ∃ i j, x = .str i ∧ xs = [.str j] ∧ j.length ≠ 0 ∧ i.length ≤ sizeLine ∧ (Txt.split i j).length ≤ sizeLine ∧ ∀ p, H p = none → Q (.ref p) (upd H p (.lst ((Txt.split i j).map V.str)))
theorem mt_split : MtR X "str.split" rSplit := by
  intro pins s σ H x xs v us Q I rx rs h
  obtain ⟨i, j, rfl, rfl, hj, hi, hn, q⟩ := h
  obtain ⟨t, rfl⟩ := rx
  obtain ⟨u, rfl, ru⟩ := vals1 rs
  obtain ⟨t', rfl⟩ := ru
  have hy : (j.length == 0) = false := by simpa using hj
  have one : ∀ {s' : Shared}, s' = { s with heap := s.heap.push { cls := .type "list", data := .seq [Value.str i t].toArray } } → Txt.split i j = [i] → EP X pins σ Q (.ref s.heap.objs.size) s' := fun e e2 => by
    subst e
    rw [e2] at q
    exact ⟨.ref _, _, I.lnew (its := [Value.str i t]) (ys := [V.str i]) (t' := s.toks) (.cons ⟨t, rfl⟩ .nil) (by show 1 ≤ sizeLine; decide), rfl, q _ I.fresh⟩
  cases h1 : (decide (i.length < j.length) || decide (Builtin.Str.strKind i < Builtin.Str.strKind j))
  · cases hf : (Builtin.Str.occurrences i j 0 i.length (i.length + 1)).isEmpty
    · have e2 : Txt.split i j = Builtin.Str.partsBetween i (Builtin.Str.occurrences i j 0 i.length (i.length + 1)) j.length := by
        unfold Txt.split
        rw [if_neg (by rw [h1]; exact Bool.false_ne_true), if_neg (by rw [hf]; exact Bool.false_ne_true)]
      rw [e2] at q hn
      refine call_meets F.slot_str_split (typeIs_str _ _ _) F.entry_str_split (F.args_str_split_2 _ _) (meets_str_split_sep i j t t' h1 hy hf hi hn) ?_
      exact ⟨.ref _, _, I.lnew (t' := _) (vals_strs _ _) (by rw [List.length_map]; exact hn), rfl, q _ I.fresh⟩
    · refine call_meets F.slot_str_split (typeIs_str _ _ _) F.entry_str_split (F.args_str_split_2 _ _) (meets_str_split_not_found i j t t' h1 hy hf) ?_
      exact one rfl (by unfold Txt.split; rw [if_neg (by rw [h1]; exact Bool.false_ne_true), if_pos hf])
  · refine call_meets F.slot_str_split (typeIs_str _ _ _) F.entry_str_split (F.args_str_split_2 _ _) (meets_str_split_cannot_occur i j t t' h1) ?_
    exact one rfl (by unfold Txt.split; rw [if_pos h1])
theorem g_split (i : Str) (ds : List Dv) (vs : List V) (H : Hp) (Q : VK) (rs : Reps X.K H ds vs) (o : Out X H (splitD i ds) Q) : rSplit (.str i) vs H Q := by
  unfold splitD at o
  split at o
  · rename_i j
    split at o
    · rename_i hc
      obtain ⟨w, rfl, rw'⟩ := reps1 rs
      cases (show w = .str j from rw')
      exact ⟨i, j, rfl, rfl, hc.1, le_line hc.2.1, le_line hc.2.2, fun p hp => o _ _ (same_new hp _) ⟨p, _, rfl, upd_same, reps_strs _⟩⟩
    · exact o.elim
  · exact o.elim
def texts : List Dv → Option (List Str)
  | [] => some []
  | .str x :: r => (match texts r with | some xs => some (x :: xs) | none => none)
  | _ => none
def joinD : Str → List Dv → Option (Rs Dv)
  | x, [.lst ds] => (match texts ds with
    | some ts => if JoinOk x ts = true then some (.ok (.str (Txt.join x ts))) else none
    | none => none)
  | _, _ => none
def rJoin (K : PySem.W.Frag) : V → List V → Hp → VK → Prop := fun x xs H Q => ∃ i a vs ds ts, x = .str i ∧ xs = [.ref a] ∧ H a = some (.lst vs) ∧ Reps K H ds vs ∧ texts ds = some ts ∧ JoinOk i ts = true ∧ Q (.str (Txt.join i ts)) H
theorem texts_vals {K : PySem.W.Frag} {H : Hp} : ∀ {ds : List Dv} {vs : List V} {us : List Value} {ts : List Str}, Reps K H ds vs → Vals vs us → texts ds = some ts → ∃ l : List (Str × Tok), us = strValues l ∧ l.map (·.1) = ts
  | [], vs, us, ts, r, q, h => by
    cases (show vs = [] from r)
    cases q
    cases h
    exact ⟨[], rfl, rfl⟩
  | d :: ds, vs, us, ts, r, q, h => by
    obtain ⟨v, ws, rfl, r1, r2⟩ : ∃ v us, vs = v :: us ∧ Rep K H d v ∧ Reps K H ds us := r
    cases q with
    | cons q1 q2 =>
      cases d <;> try (cases h; done)
      rename_i b
      simp only [texts] at h
      cases hb : texts ds with
      | none => rw [hb] at h; cases h
      | some bs' =>
        rw [hb] at h
        cases h
        cases (show v = .str b from r1)
        obtain ⟨t, rfl⟩ := q1
        obtain ⟨l, e1, e2⟩ := texts_vals r2 q2 hb
        exact ⟨(b, t) :: l, by rw [e1]; rfl, by rw [List.map_cons, e2]⟩
theorem mt_join : MtR X "str.join" (rJoin X.K) := by
  intro pins s σ H x xs v us Q I rx rs h
  obtain ⟨i, a, vs, ds, ts, rfl, rfl, h1, h2, h3, h4, q⟩ := h
  obtain ⟨t, rfl⟩ := rx
  obtain ⟨u, rfl, ru⟩ := vals1 rs
  cases ru
  obtain ⟨z, its, n, rv, hl, e⟩ := I.lstM h1
  obtain ⟨l, e1, e2⟩ := texts_vals h2 rv h3
  subst e1
  exact SC.join ⟨_, e, rfl, _, rfl⟩ e2 h4 fun t' k => ⟨.str _, H, I.tok _, ⟨_, rfl⟩, q⟩
theorem g_join (i : Str) (ds : List Dv) (vs : List V) (H : Hp) (Q : VK) (rs : Reps X.K H ds vs) (o : Out X H (joinD i ds) Q) : rJoin X.K (.str i) vs H Q := by
  unfold joinD at o
  split at o
  · rename_i es
    split at o
    · rename_i ts ht
      split at o
      · rename_i hj
        obtain ⟨w, rfl, rw'⟩ := reps1 rs
        obtain ⟨a, xs, rfl, h1, h2⟩ := rw'.lstE
        exact ⟨i, a, xs, es, ts, rfl, rfl, h1, h2, ht, hj, o _ H (.refl H) rfl⟩
      · exact o.elim
    · exact o.elim
  · exact o.elim
def partD : Str → List Dv → Option (Rs Dv)
  | x, [.str y] => if y.length ≠ 0 ∧ x.length ≤ 100000 then some (.ok (.tup [.str (Txt.partition x y).1, .str (Txt.partition x y).2.1, .str (Txt.partition x y).2.2])) else none
  | _, _ => none
def rPart : V → List V → Hp → VK → Prop := fun x xs H Q => ∃ i j, x = .str i ∧ xs = [.str j] ∧ j.length ≠ 0 ∧ i.length ≤ sizeLine ∧ ∀ p, H p = none → Q (.ref p) (upd H p (.tup [.str (Txt.partition i j).1, .str (Txt.partition i j).2.1, .str (Txt.partition i j).2.2]))
theorem mt_part : MtR X "str.partition" rPart := by
  intro pins s σ H x xs v us Q I rx rs h
  obtain ⟨i, j, rfl, rfl, hj, hi, q⟩ := h
  obtain ⟨t, rfl⟩ := rx
  obtain ⟨u, rfl, ru⟩ := vals1 rs
  obtain ⟨t', rfl⟩ := ru
  have hy : (j.length == 0) = false := by simpa using hj
  have fin : ∀ (a b c : Str) (ta tb tc : Tok) (k : Nat), Txt.partition i j = (a, b, c) → EP X pins σ Q (.ref s.heap.objs.size) { s with toks := k, heap := s.heap.push { cls := .type "tuple", data := .seq [Value.str a ta, .str b tb, .str c tc].toArray } } := fun a b c ta tb tc k e => by
    rw [e] at q
    refine ⟨.ref _, _, I.laid (t' := k) (fun b u e => Heap.get?_push_of_some _ e) (Nat.le_refl _) ?_, rfl, q _ I.fresh⟩
    exact ⟨by show 3 ≤ sizeLine; decide, [Value.str a ta, .str b tb, .str c tc], .cons ⟨_, rfl⟩ (.cons ⟨_, rfl⟩ (.cons ⟨_, rfl⟩ .nil)), ⟨_, Heap.get?_push_size _ rfl, rfl, _, rfl⟩⟩
  refine call_meets F.slot_str_partition (typeIs_str _ _ _) F.entry_str_partition (F.args_str_partition_2 _ _) (meets_str_partition i j t t' hy hi) ?_
  cases ho : Builtin.Str.occurrences i j 0 i.length 1 with
  | nil => exact fin _ _ _ _ _ _ _ (by unfold Txt.partition; rw [ho])
  | cons k r => exact fin _ _ _ _ _ _ _ (by unfold Txt.partition; rw [ho])
theorem g_part (i : Str) (ds : List Dv) (vs : List V) (H : Hp) (Q : VK) (rs : Reps X.K H ds vs) (o : Out X H (partD i ds) Q) : rPart (.str i) vs H Q := by
  unfold partD at o
  split at o
  · rename_i j
    split at o
    · rename_i hc
      obtain ⟨w, rfl, rw'⟩ := reps1 rs
      cases (show w = .str j from rw')
      exact ⟨i, j, rfl, rfl, hc.1, le_line hc.2, fun p hp => o _ _ (same_new hp _) ⟨p, _, rfl, upd_same, ⟨_, _, rfl, rfl, _, _, rfl, rfl, _, _, rfl, rfl, rfl⟩⟩⟩
    · exact o.elim
  · exact o.elim
variable {p pos : Pos} {e : Expr} {es : List Expr} {ga : FnA}
def tupleD : List Dv → Option (Rs Dv)
  | [.lst xs] => some (.ok (.tup xs))
  | [.tup xs] => some (.ok (.tup xs))
  | _ => none
theorem fe_tuple (hg : Gl X "tuple") (hm : X.mg "tuple" = none) (ha : FA X (e :: es) ga) (he : starEach (e :: es) X.env = (false, eval e X.env) :: starEach es X.env := by kernel_rfl) (hpl : (backTo pos (starEach es X.env)).any (·.1) = false := by kernel_rfl) : FE X (.Call (.Name "tuple" p) (e :: es) [] pos) (fB1 tupleD ga) :=
  fe_of (pe_callTy call_tuple_of hg hm (by decide +kernel) ha.h (by decide) (by decide) he hpl) fun σ H Q ρ E o => ⟨ρ, E, OutA.bind o fun ds vs H1 e1 rs o1 => by
    unfold tupleD at o1
    split at o1
    · rename_i xs
      obtain ⟨v, rfl, r⟩ := reps1 rs
      obtain ⟨a, ws, rfl, h1, h2⟩ := r.lstE
      exact ⟨a, ws, rfl, .inl ⟨SqL.of h1, fun l hl => o1 _ _ (same_new hl _) ⟨l, ws, rfl, upd_same, Reps.mono (same_new hl _) _ _ h2⟩⟩⟩
    · rename_i xs
      obtain ⟨v, rfl, r⟩ := reps1 rs
      obtain ⟨a, ws, rfl, h1, h2⟩ := r.tupE
      exact ⟨a, ws, rfl, .inr ⟨SqT.of h1, o1 _ H1 (.refl H1) ⟨a, ws, rfl, h1, h2⟩⟩⟩
    · exact o1.elim⟩
end
end FD
namespace FD
open PySem PySem.Spec PyProof.Rows L2
section
variable {X : Cx} {apos cpos : Pos} {e o : Expr} {es : List Expr} {ga : FnA} {fo : FnE}
end
end FD
namespace FD
open PySem PySem.Spec PyProof.Rows L2
structure FG (X : Cx) (tg : Expr) (b : Dv → Ev → Option Ev) : Prop where
  h : ∀ (pins : List (Addr × Obj)) (s : Shared) (σ : L2.St) (H : Hp) (v : V) (u : Value) (d : Dv) (ρ ρ' : Ev), Inv X pins σ H s → RelV v u → Rep X.K H d v → Envs X.K H σ ρ → b d ρ = some ρ' →
    wpAny (model X.prog X.w) X.A (assign tg X.env u) (fun _ s' => ∃ σ' H', Inv X pins σ' H' s' ∧ Same H H' ∧ Envs X.K H' σ' ρ') X.xe s
def gN (i : Nat) : Dv → Ev → Option Ev := fun d ρ => some (ρ.set i (some d))
def gP (i j : Nat) : Dv → Ev → Option Ev := fun d ρ => match d with
  | .tup [a, c] => some ((ρ.set i (some a)).set j (some c))
  | _ => none
section
variable {X : Cx} {pos p1 p2 : Pos}
theorem fg_name (i : Nat) {x : Str} (hN : X.N.Nodup) (hi : X.N[i]? = some x) (hx : Loc X.env.scope x) (hf : X.fn x = true ∨ X.env.scope.names.lookup x = some .local) : FG X (.Name x pos) (gN i) :=
  ⟨fun pins s σ H v u d ρ ρ' I r rd E e => by
    cases e
    exact thn (pg_name hN hi hx hf pins s σ H v u (fun σ' H' => H' = H ∧ σ' = σ.set i (some v)) I r ⟨rfl, rfl⟩) fun _ s' ⟨σ', H', I', e1, e2⟩ => by
      subst e1 e2
      exact ⟨_, _, I', .refl _, E.set rd⟩⟩
theorem fg_pair (i j : Nat) {x y : Str} {k : Nat} (hc : X.calm = true) (hN : X.N.Nodup) (hi : X.N[i]? = some x) (hx : Loc X.env.scope x) (hf : X.fn x = true ∨ X.env.scope.names.lookup x = some .local)
    (hj : X.N[j]? = some y) (hy : Loc X.env.scope y) (hg : X.fn y = true ∨ X.env.scope.names.lookup y = some .local)
    (hs1 : (assignEach [.Name x p1, .Name y p2] X.env).map (·.2) = assign (.Name x p1) X.env :: (assignEach [.Name y p2] X.env).map (·.2) := by kernel_rfl) (hs2 : (assignEach [.Name y p2] X.env).map (·.2) = assign (.Name y p2) X.env :: (assignEach [] X.env).map (·.2) := by kernel_rfl)
    (hn : (assignEach [.Name x p1, .Name y p2] X.env).length = 2 := by kernel_rfl) (hst : (assignEach [.Name x p1, .Name y p2] X.env).findIdx? (·.1) = none := by kernel_rfl) : FG X (.Tuple [.Name x p1, .Name y p2] k pos) (gP i j) :=
  ⟨fun pins s σ H v u d ρ ρ' I r rd E e => by
    unfold gP at e
    split at e
    · rename_i a c
      cases e
      obtain ⟨ad, xs, rfl, h1, h2⟩ := rd.tupE
      obtain ⟨va, vc, rfl, ra, rc⟩ := reps2 h2
      refine thn (pg_tup (n := 2) hc (pgs_cons (pg_name (i := i) hN hi hx hf) (pgs_cons (pg_name (i := j) hN hj hy hg) pgs_nil hs2) hs1) hn hst pins s σ H _ u (fun σ' H' => H' = H ∧ σ' = (σ.set i (some va)).set j (some vc)) I r ⟨ad, _, rfl, SqT.of h1, rfl, va, [vc], rfl, vc, [], rfl, rfl, rfl, rfl⟩) fun _ s' ⟨σ', H', I', e1, e2⟩ => ?_
      subst e1 e2
      exact ⟨_, _, I', .refl _, (E.set ra).set rc⟩
    · cases e⟩
end
structure WkG (K : PySem.W.Frag) (J : It) (ds : List Dv) (H0 : Hp) : Prop where
  go : ∀ i H, Same H0 H → i < ds.length → J.go i H
  stop : ∀ H, Same H0 H → J.stop ds.length H
  yld : ∀ i H x H', Same H0 H → i < ds.length → J.yld i H x H' → Same H H' ∧ ∃ d, ds[i]? = some d ∧ Rep K H' d x
theorem Wk.toG {K : PySem.W.Frag} {J : It} {ds : List Dv} {H0 : Hp} (w : Wk K J ds H0) : WkG K J ds H0 :=
  ⟨w.go, w.stop, fun i H x H' e hi y => by
    obtain ⟨rfl, d, h1, h2⟩ := w.yld i H x H' e hi y
    exact ⟨.refl _, d, h1, h2⟩⟩
def OutG (X : Cx) (H : Hp) (o : Option (Rs (List Dv))) (R : It → Hp → Prop) : Prop := match o with
  | none => False
  | some (.exc c) => XW X c H
  | some (.ok ds) => ∀ J H', Same H H' → WkG X.K J ds H' → R J H'
theorem OutG.mono {X : Cx} {H H' : Hp} {R : It → Hp → Prop} (e : Same H H') : ∀ {o : Option (Rs (List Dv))}, OutG X H o R → OutG X H' o R
  | none, h => h
  | some (.exc _), h => XW.mono h e
  | some (.ok _), h => fun v H1 e1 r => h v H1 (e.trans e1) r
structure FIG (X : Cx) (tg iter : Expr) (f : FnA) : Prop where
  h : PI X tg iter fun σ H R => ∃ ρ, Envs X.K H σ ρ ∧ OutG X H (f ρ) R
theorem FI.toG {X : Cx} {tg iter : Expr} {f : FnA} (h : FI X tg iter f) : FIG X tg iter f :=
  ⟨fun pins s σ H R I ⟨ρ, E, o⟩ => h.h pins s σ H R I ⟨ρ, E, by
    match hf : f ρ, o with
    | some (.exc c), o => exact o
    | some (.ok ds), o => exact fun J H' e w => o J H' e w.toG⟩⟩
def capG (m : Nat) (cs : List (Str × Nat)) (ρ : Ev) : Ev := List.replicate m none ++ cs.map fun c => (ρ[c.2]?).join
def mapG (b : Dv → Ev → Option Ev) (tst : Option FnB) (elt : FnE) (cap : Ev) : List Dv → Option (List Dv)
  | [] => some []
  | d :: ds => match b d cap with
    | none => none
    | some ρ => match (match tst with | none => (some (.ok true) : Option (Rs Bool)) | some t => t ρ) with
      | some (.ok true) => (match elt ρ with
        | some (.ok y) => (match mapG b tst elt cap ds with | some ys => some (y :: ys) | none => none)
        | _ => none)
      | some (.ok false) => mapG b tst elt cap ds
      | _ => none
structure CompOkG (osc scope : Scope) (cs : List (Str × Nat)) (N : List Str) : Prop where
  kind : scope.kind = .function
  cell : ∀ y ∈ scope.names, y.2 ≠ .cell
  names : ∀ y ∈ scope.names, y.2 = .local → scope.names.lookup y.1 = some .local
  free : ∀ y ∈ scope.names, y.2 = .free → osc.names.lookup y.1 = some .cell ∨ osc.names.lookup y.1 = some .free
  caps : ∀ c ∈ cs, N[c.2]? = some c.1 ∧ scope.names.lookup c.1 = some .free
def capGS (m : Nat) (cs : List (Str × Nat)) (σ : L2.St) : L2.St := List.replicate m none ++ cs.map fun c => (σ[c.2]?).join
theorem repl_none {α : Type} {m i : Nat} {v : α} {l : List (Option α)} (h : (List.replicate m (none : Option α) ++ l)[i]? = some (some v)) : ∃ k, i = m + k ∧ l[k]? = some (some v) := by
  by_cases hi : i < m
  · rw [List.getElem?_append_left (by simpa using hi), List.getElem?_replicate, if_pos hi] at h
    cases h
  · refine ⟨i - m, by omega, ?_⟩
    rw [List.getElem?_append_right (by simpa using hi)] at h
    simpa using h
theorem envs_capG {K : PySem.W.Frag} {H : Hp} {σ : L2.St} {ρ : Ev} (m : Nat) (cs : List (Str × Nat)) (E : Envs K H σ ρ) : Envs K H (capGS m cs σ) (capG m cs ρ) := by
  refine ⟨by simp [capGS, capG], fun i d h => ?_⟩
  obtain ⟨k, rfl, hk⟩ := repl_none h
  rw [List.getElem?_map] at hk
  cases hc : cs[k]? with
  | none => rw [hc] at hk; simp at hk
  | some c =>
    rw [hc] at hk
    simp only [Option.map_some, Option.some.injEq] at hk
    have h2 : ρ[c.2]? = some (some d) := by
      cases q : ρ[c.2]? with
      | none => rw [q] at hk; simp at hk
      | some o => rw [q] at hk; simp at hk; rw [hk]
    obtain ⟨v, h3, h4⟩ := E.at' c.2 d h2
    refine ⟨v, ?_, h4⟩
    unfold capGS
    rw [List.getElem?_append_right (by simp)]
    simp only [List.length_replicate, Nat.add_sub_cancel_left, List.getElem?_map, hc, Option.map_some, h3]
    rfl
theorem comp_invG {X : Cx} {pins : List (Addr × Obj)} {σ : L2.St} {H : Hp} {s : Shared} {scope : Scope} {ns : List Str} {cs : List (Str × Nat)} {fp : List Addr} {h₁ : Heap} {C : Addr} {t' : Nat} (ok : CompOkG X.env.scope scope cs X.N) (I : Inv X pins σ H s) (hfp : ∀ b ∈ fp, FpOk X pins H b) (hlt : ∀ b ∈ fp, b < s.heap.objs.size)
    (hC : s.heap.objs.size ≤ C) (hns : h₁.Ns C fun _ => none) (old : ∀ b o, s.heap.get? b = some o → h₁.get? b = some o) :
    Inv (compCx X (ns ++ cs.map (·.1)) scope C s H fp) [] (capGS ns.length cs σ) H { s with heap := h₁, toks := t' } := by
  have cl1 : ∀ n c, (clOf scope.names X.env []).lookup n = some c → X.env.cells.lookup n = some c := fun n c e => by
    rcases clOf_sound _ _ e with q | ⟨q1, q2⟩
    · simp at q
    · obtain ⟨c', e'⟩ := I.ok.has n (ok.free _ q1 rfl)
      rw [e'] at q2
      rw [e', q2] <;> rfl
  have kf : ∀ n k, (relabel scope X.env).names.lookup n = some k → (k = .cell ∨ k = .free) → (n, NameKind.free) ∈ scope.names := fun n k h hk => by
    rcases relabel_kind h with q | ⟨_, q⟩
    · rcases hk with rfl | rfl
      · exact absurd rfl (ok.cell _ q)
      · exact q
    · exact q
  refine ⟨⟨I.ok.mod, ok.kind, I.ok.glob, I.ok.blt, hC, fun y z c e1 e2 => I.ok.inj y z c (cl1 y c e1) (cl1 z c e2), fun y hy => ?_, fun y c h => Bool.noConfusion h, I.ok.hd, I.ok.frames, .inl rfl, fun b hb => ⟨fun z => ?_, fun y c e => (hfp b hb).2.2.2.2.1 y c (cl1 y c e)⟩, I.bs, Nat.le_trans I.ok.bsz I.sz, fun b o e hb => ?_, fun b hb z => ?_, I.stack, I.stkFree⟩,
    rfl, I.bare, Un.kept old, ⟨_, hns, fun i y v h1 h2 h3 => ?_⟩, fun y c e => ?_, I.hok.fresh hC, fun y c e => I.freeC y c (cl1 y c e), fun p hp => absurd (show p ∈ ([] : List (Addr × Obj)) from hp) (by simp), I.hok.kept old, by simp [capGS, compCx]⟩
  · have hm : (y, NameKind.free) ∈ scope.names := by
      rcases hy with hy | hy
      · exact kf y _ hy (.inl rfl)
      · exact kf y _ hy (.inr rfl)
    exact Option.isSome_iff_exists.mp (clOf_has _ _ hm)
  · have := hlt b hb
    rw [z] at this
    exact absurd (Nat.lt_of_lt_of_le this hC) (Nat.lt_irrefl _)
  · rcases (hfp b hb).2.2.2.1 with z | z
    · exact I.ok.noex b o e z
    · exact absurd (Nat.lt_of_lt_of_le (Heap.lt_size e) (Nat.le_trans I.ok.bsz z)) (Nat.lt_irrefl _)
  · rcases List.mem_cons.mp (I.stkSub b z) with q | q
    · exact (hfp b hb).2.1 q
    · exact (hfp b hb).2.2.1 q
  · obtain ⟨k, rfl, h4⟩ := repl_none h2
    have h1' : (ns ++ cs.map (·.1))[ns.length + k]? = some y := h1
    rw [List.getElem?_append_right (by simp)] at h1'
    simp only [Nat.add_sub_cancel_left] at h1'
    rw [List.getElem?_map] at h1'
    cases hc : cs[k]? with
    | none => rw [hc] at h1'; simp at h1'
    | some c =>
      rw [hc] at h1'
      have ey : c.1 = y := by simpa using h1'
      subst ey
      rw [List.getElem?_map, hc] at h4
      simp only [Option.map_some, Option.some.injEq] at h4
      have h2' : σ[c.2]? = some (some v) := by
        cases q : σ[c.2]? with
        | none => rw [q] at h4; simp at h4
        | some o => rw [q] at h4; simp at h4; rw [h4]
      obtain ⟨hN, hf⟩ := ok.caps c (List.mem_of_getElem? hc)
      have hv := ok.free _ (lookup_mem hf) rfl
      obtain ⟨mm, _, hl⟩ := I.loc
      obtain ⟨u, r, l⟩ := hl c.2 c.1 v hN h2' (.inr hv)
      refine ⟨u, r, .inr ⟨relabel_free hf, ?_⟩⟩
      rcases l with ⟨l, _⟩ | ⟨_, a, ha, o, ho, hd⟩
      · have l' : X.env.scope.names.lookup c.1 = some .local := l
        rcases hv with z | z
        · rw [l'] at z; cases z
        · rw [l'] at z; cases z
      · obtain ⟨a', ha'⟩ := Option.isSome_iff_exists.mp (clOf_has (env := X.env) scope.names [] (lookup_mem hf))
        have e2 := cl1 _ _ ha'
        rw [ha] at e2
        cases e2
        exact ⟨a, ha', o, old _ _ ho, hd⟩
  · obtain ⟨v, o, ho, hd⟩ := I.cell y c (cl1 y c e)
    exact ⟨v, o, old _ _ ho, hd⟩
theorem compLoop_any {prog : Program} {w : World} {A : Around} {R : Result → Shared → Prop} {s : Shared} {elt target iter : Expr} {ifs : List Expr} {scope : Scope} {pos : Pos} {it acc : Value} {env : Env} (I : Nat → Shared → Prop)
    (turn : ∀ n s, I n s → wpAny (model prog w) A (pyNext it) (fun r s₁ => match r with
      | none => R (.ok .next) s₁
      | some v => wpAny (model prog w) A (letOwnedTupleGo target it v) (fun _ s₀ => wpAny (model prog w) A (assign target env v) (fun _ s₂ =>
          wpAny (model prog w) A (forIn ifs true fun c r => if r = true then do let ok ← isTrue c env (eval c env); pure (ForInStep.yield ok) else pure (ForInStep.yield r)) (fun ok s₃ =>
            if ok = true then wpAny (model prog w) A (eval elt env) (fun x s₄ =>
              wpAny (model prog w) A (call (.builtin "list.append") [acc, x]) (fun _ s₅ => ∃ m, m < n ∧ I m s₅) (notedBy (model prog w) A env fun e s' => R (.error e) s') s₄) (notedBy (model prog w) A env fun e s' => R (.error e) s') s₃
            else ∃ m, m < n ∧ I m s₃) (notedBy (model prog w) A env fun e s' => R (.error e) s') s₂) (notedBy (model prog w) A env fun e s' => R (.error e) s') s₀) (notedBy (model prog w) A env fun e s' => R (.error e) s') s₁) (notedBy (model prog w) A env fun e s' => R (.error e) s') s)
    (n : Nat) (h : I n s) :
    codeAny (model prog w) A (.compLoop (.ListComp elt [⟨target, iter, ifs, 0⟩] scope pos) 0 it acc env) R s := by
  refine codeAny_loop rfl I (fun n s hI => ?_) n h
  show wpAny _ A ((compTurn (.ListComp elt [⟨target, iter, ifs, 0⟩] scope pos) 0 it acc env).onRaise (fun x => do noteFrame x env; theTreesLotGoes x)) _ _ s
  refine wpAny_noted ?_
  rw [compTurn_list]
  refine wpAny_bind (wpAny_standAt (wpAny_bind (wpAny_mono (turn n s hI) (fun r s₁ h₁ => ?_) fun _ _ h' => h')))
  cases r with
  | none => exact wpAny_pure h₁
  | some v =>
    refine wpAny_bind (wpAny_mono h₁ (fun _ s₀ h₀ => ?_) fun _ _ h' => h')
    refine wpAny_bind (wpAny_mono h₀ (fun _ s₂ h₂ => wpAny_bind (wpAny_mono h₂ (fun ok s₃ h₃ => ?_) fun _ _ h' => h')) fun _ _ h' => h')
    cases ok with
    | false =>
      rw [if_neg Bool.false_ne_true] at h₃
      first
        | exact wpAny_bind (wpAny_pure (wpAny_pure ⟨rfl, h₃⟩))
        | exact wpAny_pure ⟨rfl, h₃⟩
        | (show wpAny _ _ (again _) _ _ _; exact wpAny_pure ⟨rfl, h₃⟩)
    | true =>
      rw [if_pos rfl] at h₃
      first
        | exact wpAny_bind (wpAny_bind (wpAny_mono h₃ (fun x s₄ h₄ => wpAny_bind (wpAny_mono h₄ (fun _ s₅ h₅ => wpAny_pure (wpAny_pure ⟨rfl, h₅⟩)) fun _ _ h' => h')) fun _ _ h' => h'))
        | exact wpAny_bind (wpAny_mono h₃ (fun x s₄ h₄ => wpAny_bind (wpAny_mono h₄ (fun _ s₅ h₅ => wpAny_pure ⟨rfl, h₅⟩) fun _ _ h' => h')) fun _ _ h' => h')
def CompG (X : Cx) (ns : List Str) (cs : List (Str × Nat)) (scope : Scope) (D : Addr) (s2 : Shared) (H2 : Hp) (fp : List Addr) (tn : Nat → Heap → Prop) (ds ys : List Dv) (b : Dv → Ev → Option Ev) (tst : Option FnB) (fe : FnE) (ρ : Ev) (m : Nat) (s' : Shared) : Prop :=
  ∃ i σ' H' es vs its, m = ds.length - i ∧ i ≤ ds.length ∧ Inv (compCx X (ns ++ cs.map (·.1)) scope (D + 1) s2 H2 fp) [] σ' H' s' ∧ Envs X.K H' σ' (capG ns.length cs ρ) ∧ tn i s'.heap ∧ (∀ b ∈ fp, H' b = none) ∧ H' D = none ∧ LAt s'.heap D its ∧ Vals vs its ∧ Reps X.K H' es vs ∧ es.length ≤ i ∧ Same H2 H' ∧
      (match mapG b tst fe (capG ns.length cs ρ) (ds.drop i) with | some zs => es ++ zs = ys | none => False)
set_option maxHeartbeats 4000000 in
theorem comp_core {X : Cx} {pins : List (Addr × Obj)} {σ : L2.St} {tg elt iter : Expr} {ifs : List Expr} {scope : Scope} {pos : Pos} {ns : List Str} {tst : Option FnB} {fe : FnE} {b : Dv → Ev → Option Ev} {js : List Nat} (cs : List (Str × Nat)) (ok : CompOkG X.env.scope scope cs X.N) (hc : X.calm = true)
    (htg : ∀ C s H fp, FG (compCx X (ns ++ cs.map (·.1)) scope C s H fp) tg b) (helt : ∀ C s H fp, FE (compCx X (ns ++ cs.map (·.1)) scope C s H fp) elt fe) (hifs : ∀ C s H fp, FIfs (compCx X (ns ++ cs.map (·.1)) scope C s H fp) ifs tst)
    (hback : ∀ ρ d ρ', b d (capG ns.length cs ρ) = some ρ' → fgt js ρ' = capG ns.length cs ρ)
    {ρ : Ev} {s2 : Shared} {it : Addr} {fp : List Addr} {tn : Nat → Heap → Prop} {J : It} {H2 : Hp} (E : Envs X.K H2 σ ρ) (I2 : Inv X pins σ H2 s2) (T : Turn X.prog X.w X.K tg J fp it tn) (st2 : tn 0 s2.heap) (f2 : ∀ b ∈ fp, FpOk X pins H2 b) {ds ys : List Dv} (wk : WkG X.K J ds H2) (hdl : ds.length ≤ 100000) (hyl : ys.length ≤ 100000) (hm : mapG b tst fe (capG ns.length cs ρ) ds = some ys)
    {RR : Value → Addr → Result → Shared → Prop}
    (hRR : ∀ (D C : Addr) (s6 : Shared) (H5 : Hp) (vs : List V) (m6 : Str → Option Value), Inv X pins σ (upd H5 D (.lst vs)) s6 → H5 D = none → Same H2 H5 → Reps X.K H5 ys vs → s6.heap.Ns C m6 → H5 C = none → C ≠ D → s2.heap.objs.size ≤ C → RR (.ref D) C (.ok .next) s6) :
    wpAny (model X.prog X.w) X.A (newList []) (fun acc s₃ => wpAny (model X.prog X.w) X.A (newFunctionEnv scope X.env.globals (clOf scope.names X.env []) [] X.env.qual none .none (some X.env)) (fun cenv s₄ =>
      codeAny (model X.prog X.w) X.A (.compStart (.ListComp elt [⟨tg, iter, ifs, 0⟩] scope pos) 0 (.ref it) acc { cenv with scope := relabel scope X.env }) (RR acc cenv.locals) s₄) X.xe s₃) X.xe s2 := by
  have fplt : ∀ b ∈ fp, b < s2.heap.objs.size := fun b hb => by
    obtain ⟨o, ho, _⟩ := T.obj _ _ st2 b hb
    exact Heap.lt_size ho
  refine wpAny_newObj_type (wpAny_newFunctionEnv ok.cell (by intro y hy; simp at hy) (fun h₁ hns₁ hsb₁ => ?_) ok.kind)
  dsimp only at hns₁ hsb₁ ⊢
  generalize hH2 : s2.heap.push { cls := .type "list", dict := none, data := .seq ([] : List Value).toArray } = P2 at hns₁ hsb₁ ⊢
  obtain ⟨D, hD⟩ : ∃ D, s2.heap.objs.size = D := ⟨_, rfl⟩
  have hC : P2.objs.size = D + 1 := by rw [← hH2, Heap.size_push, hD]
  rw [hC] at hns₁ hsb₁
  rw [hC, hD]
  have old : ∀ b o, s2.heap.get? b = some o → h₁.get? b = some o := fun b o e => by
    have hb : b < D := by rw [← hD]; exact Heap.lt_size e
    exact hsb₁.extBut b o (ad_ne1 hb) (Heap.get?_push_of_some _ (hH2 ▸ Heap.get?_push_of_some _ e))
  have hacc : LAt h₁ D [] := ⟨0, hsb₁.extBut _ _ ad_s (Heap.get?_push_of_some _ (by rw [← hH2, ← hD]; exact Heap.get?_push_size _ rfl))⟩
  have hns : h₁.Ns (D + 1) fun _ => none := by simpa using hns₁
  have I4 : Inv (compCx X (ns ++ cs.map (·.1)) scope (D + 1) s2 H2 fp) [] (capGS ns.length cs σ) H2 { s2 with heap := h₁, toks := s2.toks + ([] : List (Str × Value)).length } := comp_invG ok I2 f2 fplt (by rw [hD]; exact Nat.le_succ D) hns old
  have E4 : Envs X.K H2 (capGS ns.length cs σ) (capG ns.length cs ρ) := envs_capG ns.length cs E
  have HD : H2 D = none := I2.hok.fresh (Nat.le_of_eq hD)
  have fpD : ∀ b ∈ fp, b ≠ D := fun b hb => ad_ne (hD ▸ fplt b hb)
  have loop : ∀ s4 : Shared, s4 = { s2 with heap := h₁, toks := s2.toks + ([] : List (Str × Value)).length } →
      codeAny (model X.prog X.w) X.A (.compLoop (.ListComp elt [⟨tg, iter, ifs, 0⟩] scope pos) 0 (.ref it) (.ref D) (compEnvC scope (clOf scope.names X.env []) (D + 1) X.env)) (RR (.ref D) (D + 1)) s4 := by
    rintro s4 rfl
    refine compLoop_any (fun k s' => CompG X ns cs scope D s2 H2 fp tn ds ys b tst fe ρ k s') ?_ ds.length ⟨0, capGS ns.length cs σ, H2, [], [], [], by simp, Nat.zero_le _, I4, E4, T.keep _ _ _ st2 fun b hb o e => old b o e, fun b hb => (f2 b hb).1, HD, hacc, .nil, rfl, Nat.le_refl _, .refl H2, by rw [List.drop_zero, hm]; rfl⟩
    rintro k0 s5 ⟨i, σ5, H5, es, vs, its, rfl, hi5, I5, E5, t5, fr5, D5, l5, v5, r5, hel, e5, hz⟩
    have nC : ∀ b ∈ fp, b ≠ D + 1 := fun b hb => ad_ne1 (hD ▸ fplt b hb)
    have DL : D ≠ (compCx X (ns ++ cs.map (·.1)) scope (D + 1) s2 H2 fp).env.locals := ad_s
    have Dcell : ∀ y c, (compCx X (ns ++ cs.map (·.1)) scope (D + 1) s2 H2 fp).env.cells.lookup y = some c → c ≠ D := fun y c e z => by
      obtain ⟨v, o, ho, hd⟩ := I5.cell y c e
      obtain ⟨n, q⟩ := l5
      subst z
      rw [q] at ho
      cases ho
      cases hd
    have Dfs : D ∉ (compCx X (ns ++ cs.map (·.1)) scope (D + 1) s2 H2 fp).fs := fun z => by
      rcases List.mem_cons.mp (I2.stkSub D z) with q | q
      · have z2 := I2.lt
        rw [hD] at z2
        exact ad_ne z2 q.symm
      · exact I2.nofs (Nat.le_of_eq hD) q
    have Dp : FpOk (compCx X (ns ++ cs.map (·.1)) scope (D + 1) s2 H2 fp) [] H5 D := ⟨D5, DL, Dfs, .inr (Nat.le_of_eq hD), Dcell, fun p hp => absurd (show p ∈ ([] : List (Addr × Obj)) from hp) (by simp)⟩
    have Dob : ∀ b ∈ [D], ∃ o, s5.heap.get? b = some o ∧ ∀ v, o.data ≠ .cell v := fun b hb => by
      have e : b = D := by simpa using hb
      subst e
      obtain ⟨n, q⟩ := l5
      exact ⟨_, q, fun v z => by cases z⟩
    have I5p : Inv (compCx X (ns ++ cs.map (·.1)) scope (D + 1) s2 H2 fp) (pinsAt [D] s5.heap) σ5 H5 s5 := by
      have q := I5.pinned (fp := [D]) (fun b hb => by have e : b = D := by simpa using hb
                                                      subst e; exact Dp) Dob
      rw [List.nil_append] at q
      exact q
    have ner : ∀ b ∈ fp, ∀ p ∈ pinsAt [D] s5.heap, p.1 ≠ b := fun b hb p hp z => by
      have e : p.1 = D := by simpa using (of_pinsAt hp).1
      exact fpD b hb (z.symm.trans e)
    have fp5' : ∀ b ∈ fp, FpOk (compCx X (ns ++ cs.map (·.1)) scope (D + 1) s2 H2 fp) (pinsAt [D] s5.heap) H5 b := fun b hb => ⟨fr5 b hb, nC b hb, I4.ok.exfs b hb, .inl hb, (I4.ok.exf b hb).2, fun p hp => ner b hb p (by simpa [compCx] using hp)⟩
    have lenR : vs.length = es.length := r5.length
    have lenV : vs.length = its.length := v5.length
    by_cases hlt : i < ds.length
    · refine thn (T.item (compCx X (ns ++ cs.map (·.1)) scope (D + 1) s2 H2 fp) rfl rfl rfl hc i (pinsAt [D] s5.heap) s5 σ5 H5 _ I5p fp5' t5 (wk.go i H5 e5 hlt)) fun r s6 ⟨u, hr, h6⟩ => ?_
      subst hr
      refine thn h6 fun _ s7 ⟨xv, H7, I7, r7, y7, t7, fr7⟩ => ?_
      obtain ⟨e57, d, hd, rd⟩ := wk.yld i H5 xv H7 e5 hlt y7
      rw [drop_cons hd] at hz
      have I7p := I7.pinned (fp := fp) (fun b hb => ⟨fr7 b hb, nC b hb, I4.ok.exfs b hb, .inl hb, (I4.ok.exf b hb).2, fun p hp => ner b hb p (by simpa [compCx] using hp)⟩) (T.obj _ _ t7)
      have fin : ∀ {σ8 : L2.St} {H8 : Hp} {s8 : Shared}, Inv (compCx X (ns ++ cs.map (·.1)) scope (D + 1) s2 H2 fp) (pinsAt [D] s5.heap ++ pinsAt fp s7.heap) σ8 H8 s8 → tn (i + 1) s8.heap ∧ (∀ b ∈ fp, H8 b = none) ∧ H8 D = none ∧ LAt s8.heap D its := fun {σ8 H8 s8} I8 => by
        refine ⟨T.keep _ _ _ t7 fun b hb o e => (I8.pin (b, o) (List.mem_append_right _ (List.mem_append_right _ (mem_pinsAt hb e)))).1, fun b hb => ?_, ?_, ?_⟩
        · obtain ⟨o, e, _⟩ := T.obj _ _ t7 b hb
          exact (I8.pin (b, o) (List.mem_append_right _ (List.mem_append_right _ (mem_pinsAt hb e)))).2.1
        · obtain ⟨n, q⟩ := l5
          exact (I8.pin (D, _) (List.mem_append_right _ (List.mem_append_left _ (mem_pinsAt (by simp) q)))).2.1
        · obtain ⟨n, q⟩ := l5
          exact ⟨n, (I8.pin (D, _) (List.mem_append_right _ (List.mem_append_left _ (mem_pinsAt (by simp) q)))).1⟩
      unfold mapG at hz
      match hb : b d (capG ns.length cs ρ) with
      | none => rw [hb] at hz; exact hz.elim
      | some ρd =>
        rw [hb] at hz
        dsimp only at hz
        refine wpAny_mono ((htg (D + 1) s2 H2 fp).h _ s7 σ5 H7 xv u d (capG ns.length cs ρ) ρd I7p r7 rd (E5.mono e57) hb) (fun _ s8 ⟨σ8, H8, I8, e78, E8⟩ => ?_) fun _ _ z => False.elim z
        have e58 := e57.trans e78
        have back : ∀ {σ9 : L2.St} {H9 : Hp}, Envs X.K H9 σ9 ρd → Envs X.K H9 σ9 (capG ns.length cs ρ) := fun {σ9 H9} E9 => by
          have q := Envs.fgt js E9
          rw [hback ρ d ρd hb] at q
          exact q
        have took : ∀ {H9 : Hp} {s9 : Shared}, Inv (compCx X (ns ++ cs.map (·.1)) scope (D + 1) s2 H2 fp) (pinsAt [D] s5.heap ++ pinsAt fp s7.heap) σ8 H9 s9 → Same H8 H9 →
            (match (match fe ρd with | some (.ok y) => (match mapG b tst fe (capG ns.length cs ρ) (ds.drop (i + 1)) with | some ys => some (y :: ys) | none => none) | _ => none) with | some zs => es ++ zs = ys | none => False) →
            wpAny (model X.prog X.w) X.A (eval elt (compEnvC scope (clOf scope.names X.env []) (D + 1) X.env)) (fun xw s₄ =>
              wpAny (model X.prog X.w) X.A (call (.builtin "list.append") [.ref D, xw]) (fun _ s₅ => ∃ k, k < ds.length - i ∧ CompG X ns cs scope D s2 H2 fp tn ds ys b tst fe ρ k s₅) (notedBy (model X.prog X.w) X.A (compEnvC scope (clOf scope.names X.env []) (D + 1) X.env) fun e s' => RR (.ref D) (D + 1) (.error e) s') s₄) (notedBy (model X.prog X.w) X.A (compEnvC scope (clOf scope.names X.env []) (D + 1) X.env) fun e s' => RR (.ref D) (D + 1) (.error e) s') s9 := fun {H9 s9} I9 e9 hz9 => by
          match hfe : fe ρd, hz9 with
          | none, hz9 => exact hz9.elim
          | some (.exc c), hz9 => exact hz9.elim
          | some (.ok y), hz9 =>
            refine wpAny_mono ((helt (D + 1) s2 H2 fp).h _ s9 σ8 H9 (fun v H10 => Same H9 H10 ∧ Rep X.K H10 y v) I9 ⟨ρd, E8.mono e9, by rw [hfe]; exact fun v H10 e10 r10 => ⟨e10, r10⟩⟩) (fun w s10 ⟨yv, H10, I10, rw10, e10, r10⟩ => ?_) fun _ _ z => False.elim z
            obtain ⟨t10, fr10, D10, l10⟩ := fin I10
            refine lat_append l10 (by omega) fun h11 l11 k11 => ?_
            have I10' : Inv (compCx X (ns ++ cs.map (·.1)) scope (D + 1) s2 H2 fp) (pinsAt fp s7.heap) σ8 H10 s10 := I10.pins_of fun p hp => I10.pin p (List.mem_append_right _ (List.mem_append_right _ hp))
            have I11 : Inv (compCx X (ns ++ cs.map (·.1)) scope (D + 1) s2 H2 fp) (pinsAt fp s7.heap) σ8 H10 { s10 with heap := h11 } := I10'.turned (t' := s10.toks) k11 D10 DL (.inr (Nat.le_of_eq hD)) Dcell fun p hp z => by
              have hp' : p ∈ pinsAt fp s7.heap := by simpa [compCx] using hp
              exact fpD p.1 (of_pinsAt hp').1 z
            have e80 := e9.trans e10
            refine ⟨ds.length - (i + 1), by omega, i + 1, σ8, H10, es ++ [y], vs ++ [yv], its ++ [w], rfl, hlt, I11.pins_of fun p hp => absurd hp (by simp), back (E8.mono e80), T.keep _ _ _ t10 fun b hb o e => k11 b o (fpD b hb) e, fr10, D10, l11, v5.append (.cons rw10 .nil), (Reps.mono (e58.trans e80) _ _ r5).append ⟨yv, [], rfl, r10, rfl⟩, by rw [List.length_append, List.length_singleton]; omega, e5.trans (e58.trans e80), ?_⟩
            match hm2 : mapG b tst fe (capG ns.length cs ρ) (ds.drop (i + 1)), hz9 with
            | none, hz9 => exact hz9.elim
            | some zs, hz9 => dsimp only at hz9 ⊢; rw [List.append_assoc]; exact hz9
        have hif := hifs (D + 1) s2 H2 fp
        cases tst with
        | none =>
          cases (show ifs = [] from hif)
          exact wpAny_tests_nil (by rw [if_pos rfl]; exact took I8 (.refl H8) hz)
        | some t =>
          obtain ⟨c, rfl, hct⟩ := hif
          match htt : t ρd, hz with
          | none, hz => simp only [htt] at hz
          | some (.exc c), hz => simp only [htt] at hz
          | some (.ok true), hz =>
            simp only [htt] at hz
            refine wpAny_tests_one (wpAny_mono (hct.h _ s8 σ8 H8 (fun b H9 => b = true ∧ Same H8 H9) I8 ⟨_, E8, by rw [htt]; exact fun H9 e9 => ⟨rfl, e9⟩⟩) (fun b s9 ⟨H9, I9, hb, e9⟩ => ?_) fun _ _ z => False.elim z)
            subst hb
            rw [if_pos rfl]
            exact took I9 e9 hz
          | some (.ok false), hz =>
            simp only [htt] at hz
            refine wpAny_tests_one (wpAny_mono (hct.h _ s8 σ8 H8 (fun b H9 => b = false ∧ Same H8 H9) I8 ⟨_, E8, by rw [htt]; exact fun H9 e9 => ⟨rfl, e9⟩⟩) (fun b s9 ⟨H9, I9, hb, e9⟩ => ?_) fun _ _ z => False.elim z)
            subst hb
            rw [if_neg Bool.false_ne_true]
            obtain ⟨t9, fr9, D9, l9⟩ := fin I9
            exact ⟨ds.length - (i + 1), by omega, i + 1, σ8, H9, es, vs, its, rfl, hlt, I9.pins_of fun p hp => absurd hp (by simp), back (E8.mono e9), t9, fr9, D9, l9, v5, Reps.mono (e58.trans e9) _ _ r5, by omega, e5.trans (e58.trans e9), hz⟩
    · have hi' : i = ds.length := by omega
      subst hi'
      rw [List.drop_length] at hz
      have hz' : es ++ [] = ys := hz
      rw [List.append_nil] at hz'
      subst hz'
      refine thn (T.done (compCx X (ns ++ cs.map (·.1)) scope (D + 1) s2 H2 fp) rfl rfl rfl hc ds.length (pinsAt [D] s5.heap) s5 σ5 H5 _ I5p fp5' t5 (wk.stop H5 e5)) fun r s6 ⟨hr, I6⟩ => ?_
      subst hr
      have l6 : LAt s6.heap D its := by
        obtain ⟨n, q⟩ := l5
        exact ⟨n, (I6.pin (D, _) (List.mem_append_right _ (mem_pinsAt (by simp) q))).1⟩
      obtain ⟨m6, n6, _⟩ := I6.loc
      have C6 : H5 (D + 1) = none := I6.free
      have new : ObjOk X.prog X.w (upd H5 D (.lst vs)) s6.heap D (.lst vs) := by
        obtain ⟨n, q⟩ := l6
        exact ⟨by rw [lenR]; exact le_line hyl, its, n, v5, q⟩
      have u6 : Un (frs X.stack) fp H2 H5 s2.heap s6.heap := I6.base
      have nD : ∀ b o, s2.heap.get? b = some o → b ≠ D := fun b o e => by
        have hb : b < D := by rw [← hD]; exact Heap.lt_size e
        exact ad_ne hb
      have u7 : Un (frs X.stack) fp H2 (upd H5 D (.lst vs)) s2.heap s6.heap := ⟨u6.keep, u6.slot, fun b o e n hx => by rw [upd_ne (nD b o e)]; exact u6.free b o e n hx, u6.there, fun b xs q => by
          have q' := u6.tups b xs q
          rw [upd_ne (ne_of_none q' D5)]; exact q', fun b o u q => by
          have q' := u6.frzs b o u q
          rw [upd_ne (ne_of_none q' D5)]; exact q', fun b ps q => by
          obtain ⟨more, q'⟩ := u6.tbls b ps q
          exact ⟨more, by rw [upd_ne (ne_of_none q' D5)]; exact q'⟩⟩
      have I7 : Inv X pins σ (upd H5 D (.lst vs)) s6 := I2.call' (s' := s6) (ch := fp) I6.os u7 (HOk.add I6.hok D5 C6 (fun b u _ q => q) new) I6.bare fun b hb => ⟨(f2 b hb).2.2.2.1, (f2 b hb).2.1, (f2 b hb).2.2.2.2.1, (f2 b hb).2.2.2.2.2⟩
      exact hRR D (D + 1) s6 H5 vs m6 I7 D5 e5 r5 n6 C6 (Ne.symm ad_s) (by rw [hD]; exact Nat.le_succ D)
  exact codeAny_compStart_list (loop _ rfl) (T.self _ 0 _ _ _ (T.keep _ _ _ st2 fun b hb o e => old b o e) (loop _ rfl))
end FD
namespace FD
open PySem PySem.Spec PyProof.Rows L2
def fCompG (m : Nat) (cs : List (Str × Nat)) (src : FnA) (b : Dv → Ev → Option Ev) (tst : Option FnB) (elt : FnE) : FnE := fun ρ => bnd (src ρ) fun ds => match mapG b tst elt (capG m cs ρ) ds with
  | some ys => if ys.length ≤ 100000 ∧ ds.length ≤ 100000 then some (.ok (.lst ys)) else none
  | none => none
theorem keyG {m : Nat} {cs : List (Str × Nat)} {src : FnA} {b : Dv → Ev → Option Ev} {tst : Option FnB} {fe : FnE} {ρ : Ev} {o : Rs Dv} (h : fCompG m cs src b tst fe ρ = some o) :
    (∃ c, src ρ = some (.exc c) ∧ o = .exc c) ∨ ∃ ds ys, src ρ = some (.ok ds) ∧ mapG b tst fe (capG m cs ρ) ds = some ys ∧ ds.length ≤ 100000 ∧ ys.length ≤ 100000 ∧ o = .ok (.lst ys) := by
  unfold fCompG at h
  match hf : src ρ with
  | none => rw [hf] at h; cases h
  | some (.exc c) => rw [hf] at h; cases h; exact .inl ⟨c, rfl, rfl⟩
  | some (.ok ds) =>
    rw [hf] at h
    dsimp only [bnd] at h
    match hm : mapG b tst fe (capG m cs ρ) ds with
    | none => rw [hm] at h; cases h
    | some ys =>
      rw [hm] at h
      dsimp only at h
      split at h
      · rename_i hl
        cases h
        exact .inr ⟨ds, ys, rfl, hm, hl.2, hl.1, rfl⟩
      · cases h
theorem fs_setC {X : Cx} {tg elt iter : Expr} {ifs : List Expr} {scope : Scope} {pos : Pos} {src : FnA} {tst : Option FnB} {fe : FnE} {b : Dv → Ev → Option Ev} {y : Str} {py spos : Pos} (i : Nat) (hnd : X.N.Nodup) (hiy : X.N[i]? = some y) (hxy : Loc X.env.scope y) (hfy : X.fn y = true ∨ X.env.scope.names.lookup y = some .local)
    (osc : Scope) (N ns : List Str) (js : List Nat) (cs : List (Str × Nat)) (hosc : X.env.scope = osc) (hN : X.N = N) (ok : CompOkG osc scope cs N) (hcl : closureFor scope X.env = pure (clOf scope.names X.env [])) (hc : X.calm = true)
    (hback : ∀ ρ d ρ', b d (capG ns.length cs ρ) = some ρ' → fgt js ρ' = capG ns.length cs ρ)
    (hi : FIG X tg iter src) (htg : ∀ C s H fp, FG (compCx X (ns ++ cs.map (·.1)) scope C s H fp) tg b) (helt : ∀ C s H fp, FE (compCx X (ns ++ cs.map (·.1)) scope C s H fp) elt fe) (hifs : ∀ C s H fp, FIfs (compCx X (ns ++ cs.map (·.1)) scope C s H fp) ifs tst)
    (hsw : swapsWith (.ListComp elt [⟨tg, iter, ifs, 0⟩] scope pos) (some (.Name y py)) spos.line X.env = pure true := by kernel_rfl)
    (hs : ∀ x, foldedSetIterable iter X.env x = pure x := by intro _; kernel_rfl) : FS X (.Assign [.Name y py] (.ListComp elt [⟨tg, iter, ifs, 0⟩] scope pos) spos) (fSet i (fCompG ns.length cs src b tst fe)) := by
  subst hosc hN
  constructor
  intro pins s σ H D0 I h
  obtain ⟨ρ, E, o⟩ := h
  match ho : fCompG ns.length cs src b tst fe ρ with
  | none => unfold fSet at o; rw [ho] at o; exact o.elim
  | some r =>
    unfold fSet at o
    rw [ho] at o
    have key : OutG X H (src ρ) fun J H' => ∃ ds ys, Same H H' ∧ WkG X.K J ds H' ∧ ds.length ≤ 100000 ∧ ys.length ≤ 100000 ∧ mapG b tst fe (capG ns.length cs ρ) ds = some ys ∧ (∀ σ'' H'', Same H' H'' → Envs X.K H'' σ'' (ρ.set i (some (.lst ys))) → D0.nx σ'' H'') := by
      rcases keyG ho with ⟨c, e1, e2⟩ | ⟨ds, ys, e1, e2, l1, l2, e3⟩
      · subst e2; rw [e1]; exact o
      · subst e3; rw [e1]; exact fun J H' e wk => ⟨ds, ys, e, wk, l1, l2, e2, fun v H'' e2 r => o v H'' (e.trans e2) r⟩
    rw [exec_Assign_Name_used _ _ _ _ hsw]
    refine wpAny_bind (wpAny_standAt (wpAny_bind ?_))
    show wpAny _ X.A (do let _ ← comprehension (.ListComp elt [⟨tg, iter, ifs, 0⟩] scope pos) scope X.env _ (newList []) false (eval iter X.env) (some (assign (.Name y py) X.env))) _ _ s
    refine wpAny_bind (wpAny_mono (wpAny_comprehension_free (use := some (assign (.Name y py) X.env)) (Q := fun _ s' => SP X pins D0 .next s') rfl hs hcl ok.kind ok.names
      (thn (hi.h pins s σ H _ I ⟨ρ, E, key⟩) fun v s1 h1 => thn h1 fun itv s2 h2 => ?_)) (fun _ s' hq => wpAny_pure (wpAny_pure hq)) fun _ _ e => e)
    obtain ⟨it, fp, tn, J, H2, e, I2, T, st2, f2, ds, ys, e12, wk, hdl, hyl, hm, hQ⟩ := h2
    subst e
    refine comp_core cs ok hc htg helt hifs hback (E.mono e12) I2 T st2 f2 wk hdl hyl hm (RR := fun acc C => compPost (model X.prog X.w) X.A X.xe (some (assign (.Name y py) X.env)) (fun _ s' => SP X pins D0 .next s') acc C) fun D C s6 H5 vs m6 I6 D5 e5 r5 n6 C6 CD hC => ?_
    have Cn : (upd H5 D (.lst vs)) C = none := by rw [upd_ne CD]; exact C6
    have FC := I2.fpOk hC Cn
    obtain ⟨oC, es, ep, hoC, hdC, rC⟩ := id n6
    have I6p := I6.pinned (fp := [C]) (fun b hb => by have e : b = C := by simpa using hb
                                                      subst e; exact FC) (fun b hb => by
      have e : b = C := by simpa using hb
      subst e
      exact ⟨oC, hoC, fun v z => by rw [hdC] at z; cases z⟩)
    refine thn (pg_name hnd hiy hxy hfy _ s6 σ _ (.ref D) (.ref D) (fun σ' H' => σ' = σ.set i (some (.ref D)) ∧ H' = upd H5 D (.lst vs)) I6p rfl ⟨rfl, rfl⟩) fun _ s8 ⟨σ8, H8, I8, e1, e2⟩ => ?_
    subst e1 e2
    have hC8 := (I8.pin (C, oC) (List.mem_append_right _ (List.mem_append_right _ (mem_pinsAt (by simp) hoC)))).1
    refine ⟨m6, ⟨oC, es, ep, hC8, hdC, rC⟩, fun h9 sb9 => ?_⟩
    have I8' : Inv X pins (σ.set i (some (.ref D))) (upd H5 D (.lst vs)) s8 := I8.unpinned
    obtain ⟨q0, q1, q2, q3, q4, q5⟩ := FC
    have I9 : Inv X pins (σ.set i (some (.ref D))) (upd H5 D (.lst vs)) { s8 with heap := h9 } := I8'.turned (t' := s8.toks) (fun b o hb e => sb9.extBut b o hb e) q0 q1 q3 q4 q5
    refine ⟨_, _, I9, hQ _ _ (e5.trans (same_new D5 _)) ?_⟩
    exact ((E.mono e12).mono (e5.trans (same_new D5 _))).set ⟨D, vs, rfl, upd_same, Reps.mono (same_new D5 _) _ _ r5⟩
theorem back1 (cs : List (Str × Nat)) (ρ : Ev) (d : Dv) (ρ' : Ev) (h : gN 0 d (capG 1 cs ρ) = some ρ') : fgt [0] ρ' = capG 1 cs ρ := by
  cases h
  rfl
end FD
namespace FD
open PySem PySem.Spec PyProof.Rows L2
def setV : List Nat → List V → L2.St → L2.St
  | i :: is, v :: vs, σ => setV is vs (σ.set i (some v))
  | _, _, σ => σ
def setD : List Nat → List Dv → Ev → Ev
  | i :: is, d :: ds, ρ => setD is ds (ρ.set i (some d))
  | _, _, ρ => ρ
def gAll (is : List Nat) : TGs := fun vs σ H Q => vs.length = is.length ∧ Q (setV is vs σ) H
section
variable {X : Cx} {pos p1 : Pos}
theorem pgs_weak {ts : List Expr} {t t' : TGs} (h : PGs X ts t) (w : ∀ vs σ H Q, t' vs σ H Q → t vs σ H Q) : PGs X ts t' :=
  fun pins s σ H vs us Q I r q => h pins s σ H vs us Q I r (w vs σ H Q q)
theorem gs_nil : PGs X [] (gAll []) := pgs_weak pgs_nil fun vs σ H Q ⟨l, q⟩ => by
  cases vs with
  | nil => exact ⟨rfl, q⟩
  | cons v r => cases l
theorem gs_cons (i : Nat) {x : Str} {is : List Nat} {es : List Expr} (hN : X.N.Nodup) (hi : X.N[i]? = some x) (hx : Loc X.env.scope x) (hf : X.fn x = true ∨ X.env.scope.names.lookup x = some .local) (h : PGs X es (gAll is))
    (hs : (assignEach (.Name x p1 :: es) X.env).map (·.2) = assign (.Name x p1) X.env :: (assignEach es X.env).map (·.2) := by kernel_rfl) : PGs X (.Name x p1 :: es) (gAll (i :: is)) :=
  pgs_weak (pgs_cons (pg_name (i := i) hN hi hx hf) h hs) fun vs σ H Q ⟨l, q⟩ => by
    cases vs with
    | nil => cases l
    | cons v r => exact ⟨v, r, rfl, (⟨Nat.succ.inj l, q⟩ : gAll is r (σ.set i (some v)) H Q)⟩
theorem Envs.setAll {K : PySem.W.Frag} {H : Hp} : ∀ (is : List Nat) {ds : List Dv} {vs : List V} {σ : L2.St} {ρ : Ev}, Envs K H σ ρ → Reps K H ds vs → Envs K H (setV is vs σ) (setD is ds ρ)
  | [], _, _, _, _, E, _ => E
  | _ :: _, [], vs, _, _, E, r => by cases (show vs = [] from r); exact E
  | i :: is, d :: ds, vs, σ, ρ, E, r => by
    obtain ⟨v, us, rfl, h, t⟩ : ∃ v us, vs = v :: us ∧ Rep K H d v ∧ Reps K H ds us := r
    exact Envs.setAll is (E.set h) t
def unpD (is : List Nat) (ρ : Ev) : Dv → Option Fl
  | .tup ds => if ds.length = is.length then some (.nx (setD is ds ρ)) else none
  | _ => none
def fUnp (is : List Nat) (f : FnE) : FnS := fun ρ => bndS (f ρ) (unpD is ρ)
theorem fs_unp {es : List Expr} {k : Nat} {e : Expr} {fa : FnE} {is : List Nat} (hc : X.calm = true) (h : PGs X es (gAll is)) (he : FE X e fa)
    (hn : (assignEach es X.env).length = is.length := by kernel_rfl) (hst : (assignEach es X.env).findIdx? (·.1) = none := by kernel_rfl)
    (hs : swapsWithSole [.Tuple es k p1] e pos.line X.env = pure false := by kernel_rfl) (hw : swappedStores [.Tuple es k p1] e X.env = pure none := by kernel_rfl)
    (h1 : (assignEach [.Tuple es k p1] X.env).map (·.2) = [assign (.Tuple es k p1) X.env] := by kernel_rfl) : FS X (.Assign [.Tuple es k p1] e pos) (fUnp is fa) :=
  fs_of (ps_asg he.h (pg_tup (n := is.length) hc h hn hst) hs hw h1) fun D σ H ρ E o => ⟨ρ, E, Out.bindS o fun d v H1 e r o1 => by
    cases d with
    | tup ds =>
      have o2 : OutS X H1 (if ds.length = is.length then some (.nx (setD is ds ρ)) else none) D := o1
      by_cases hl : ds.length = is.length
      · rw [if_pos hl] at o2
        obtain ⟨a, xs, rfl, h1, h2⟩ := r.tupE
        exact ⟨a, xs, rfl, SqT.of h1, h2.length.trans hl, h2.length.trans hl, o2 _ H1 (.refl H1) (Envs.setAll is (E.mono e) h2)⟩
      · rw [if_neg hl] at o2
        exact o2.elim
    | _ => exact o1.elim⟩
end
theorem fSeq_nx {a b : FnS} {ρ ρ' : Ev} (h : a ρ = some (.nx ρ')) : fSeq a b ρ = b ρ' := by
  unfold fSeq; rw [h]; rfl
theorem ifS_skip {c : FnB} {f : FnS} {ρ : Ev} (h : c ρ = some (.ok false)) : fIfS c f (fun ρ => some (.nx ρ)) ρ = some (.nx ρ) := by
  unfold fIfS; rw [h]; rfl
theorem fSet_nx {i : Nat} {v : FnE} {ρ ρ' : Ev} {d : Dv} (h : v ρ = some (.ok d)) (e : ρ.set i (some d) = ρ') : fSet i v ρ = some (.nx ρ') := by
  unfold fSet; rw [h, ← e]; rfl
theorem bNot_of {a : FnB} {ρ : Ev} {k : Bool} (h : a ρ = some (.ok k)) : bNot a ρ = some (.ok (!k)) := by unfold bNot; rw [h]; rfl
theorem fB_of {f : FnE} {ρ : Ev} {k : Bool} (h : f ρ = some (.ok (.bl k))) : fB f ρ = some (.ok k) := by unfold fB; rw [h]; rfl
theorem f2_of {g : Dv → Dv → Option (Rs Dv)} {f h : FnE} {ρ : Ev} {x y : Dv} (hf : f ρ = some (.ok x)) (hh : h ρ = some (.ok y)) : f2 g f h ρ = g x y := by unfold f2; rw [hf, hh]; rfl
theorem aCons_of {f : FnE} {g : FnA} {ρ : Ev} {x : Dv} {xs : List Dv} (h : f ρ = some (.ok x)) (t : g ρ = some (.ok xs)) : aCons f g ρ = some (.ok (x :: xs)) := by unfold aCons; rw [h, t]; rfl
theorem aNil_of {ρ : Ev} : aNil ρ = some (.ok []) := rfl
theorem fCall_of {F : List Dv → Option (Rs Dv)} {n : Nat} {g : FnA} {ρ : Ev} {ds : List Dv} {d : Dv} (h : g ρ = some (.ok ds)) (hl : ds.length = n) (hF : F ds = some (.ok d)) : fCall F n g ρ = some (.ok d) := by
  unfold fCall; rw [h]
  show (if _ then _ else _) = _
  rw [if_pos hl, hF]
theorem call1 (F : List Dv → Option (Rs Dv)) {f : FnE} {ρ : Ev} {a d : Dv} (h : f ρ = some (.ok a)) (hF : F [a] = some (.ok d)) : fCall F 1 (aCons f aNil) ρ = some (.ok d) := fCall_of (aCons_of h aNil_of) rfl hF
theorem call2 (F : List Dv → Option (Rs Dv)) {f g : FnE} {ρ : Ev} {a b d : Dv} (h : f ρ = some (.ok a)) (h' : g ρ = some (.ok b)) (hF : F [a, b] = some (.ok d)) : fCall F 2 (aCons f (aCons g aNil)) ρ = some (.ok d) := fCall_of (aCons_of h (aCons_of h' aNil_of)) rfl hF
theorem fB1_of {g : List Dv → Option (Rs Dv)} {a : FnA} {ρ : Ev} {ds : List Dv} (h : a ρ = some (.ok ds)) : fB1 g a ρ = g ds := by unfold fB1; rw [h]; rfl
theorem run_rt {n : Nat} {B : FnS} {ds : List Dv} {d : Dv} (h : B (ds.map some ++ List.replicate (n - ds.length) none) = some (.rt d)) : runF n B ds = some (.ok d) := by
  unfold runF; rw [h]
end FD
namespace FD
open PySem PySem.Spec PyProof.Rows L2
section
variable {prog : Program} {w : World} {A : Around} {E : Value → Shared → Prop}
end
section
variable {X : Cx} {pos p1 : Pos}
end
end FD
namespace FD
open PySem PySem.Spec PyProof.Rows L2
structure Aft (X : Cx) (e : Addr) (Ts : List Addr) (h h' : Heap) : Prop where
  keep : ∀ b o, h.get? b = some o → b ≠ e → b ∉ Ts → b ∉ frs X.stack → h'.get? b = some o
  slot : ∀ b o, h.get? b = some o → b ∈ frs X.stack → ∃ sl, h'.get? b = some { o with slots := sl }
section
variable {X : Cx} {pins : List (Addr × Obj)} {σ : L2.St} {H : Hp} {s : Shared} {e : Addr} {Ts : List Addr} {h' : Heap}
theorem Aft.any {h : Heap} (A : Aft X e Ts h h') {b : Addr} {o : Obj} (q : h.get? b = some o) (n1 : b ≠ e) (n2 : b ∉ Ts) : ∃ sl, h'.get? b = some { o with slots := sl } := by
  by_cases hb : b ∈ frs X.stack
  · exact A.slot b o q hb
  · exact ⟨o.slots, A.keep b o q n1 n2 hb⟩
end
end FD
namespace FD
open PySem PySem.Spec PyProof.Rows L2
section
variable {X : Cx} {pins : List (Addr × Obj)} {σ : L2.St} {H : Hp} {s : Shared} {e : Addr} {cls : Value}
theorem Fly.imp {N N' : Addr → Prop} {h : Heap} (F : Fly N H e cls h) (k : ∀ a, N a → N' a) : Fly N' H e cls h := by
  obtain ⟨h1, h2, oe, vs, a0, q1, q2, q3, q4, q5⟩ := F
  refine ⟨h1, k _ h2, oe, vs, a0, q1, q2, q3, q4, ?_⟩
  rcases q5 with q5 | ⟨T, oT, ts, r1, r2, r3, r4, r5⟩
  · exact .inl q5
  · exact .inr ⟨T, oT, ts, r1, r2, r3, k _ r4, r5⟩
end
def fCallE (F : List Dv → Option (Rs Dv)) (n : Nat) (g : FnA) : FnE := fun ρ => bnd (g ρ) fun ds => if ds.length = n then F ds else none
section
variable {X : Cx} {k n : Nat} {ps : List Str} {x : Str} {p pos : Pos} {e : Expr} {es : List Expr} {F : List Dv → Option (Rs Dv)} {g : FnA}
end
end FD
namespace FD
open PySem PySem.Spec PyProof.Rows L2
theorem tracked_there {P : Program} {w : World} {H : Hp} {h : Heap} (ok : HOk P w H h) {a : Addr} {u : HO} (q : H a = some u) : ∃ o, h.get? a = some o := by
  have hk := ok a u q
  clear q
  induction u with
  | lst xs => obtain ⟨_, _, _, _, z⟩ := hk; exact ⟨_, z⟩
  | tup xs => obtain ⟨_, _, _, o, z, _⟩ := hk; exact ⟨_, z⟩
  | dK kvs => obtain ⟨_, _, _, _, o, _, _, z, _⟩ := hk; exact ⟨_, z⟩
  | dT kvs => obtain ⟨_, _, _, _, o, _, _, z, _⟩ := hk; exact ⟨_, z⟩
  | set S n => obtain ⟨o, _, _, _, z, _⟩ := hk; exact ⟨_, z⟩
  | ins C dx fs => obtain ⟨_, _, _, z, _⟩ := hk; exact ⟨_, z⟩
  | own y => obtain ⟨_, z⟩ := hk; exact ⟨_, z⟩
  | xd fs => obtain ⟨_, ⟨_, _, _, z, _⟩, _⟩ := hk; exact ⟨_, z⟩
  | rng lo hi => obtain ⟨_, _, _, z⟩ := hk; exact ⟨_, z⟩
  | frz ob u ih => obtain ⟨z, _⟩ := hk; exact ⟨_, z⟩
  | tbl ps => exact ⟨_, (show h.get? a = some _ from hk)⟩
  | met f y => exact ⟨_, (show h.get? a = some _ from hk)⟩
  | ext φ => obtain ⟨_, ⟨_, z⟩, _⟩ := hk; exact ⟨_, z⟩
theorem untracked {P : Program} {w : World} {H : Hp} {h : Heap} (ok : HOk P w H h) {a : Addr} (n : h.get? a = none) : H a = none := by
  cases q : H a with
  | none => rfl
  | some u =>
    obtain ⟨o, z⟩ := tracked_there ok q
    rw [n] at z
    cases z
abbrev bmV : List Value := [.type "ValueError", .type "Exception", .type "BaseException", .type "object"]
structure XC (K : PySem.W.Frag) (c : Nat) (C : Addr) : Prop where
  nm : PySem.W.nsIn K mainGlobals (xnm c) = some (some (.ref C))
  ex : PySem.W.excIn K C bmV "ValueError.__new__" = true
def fRaise (c : Nat) (f : FnE) : FnS := fun ρ => bndS (f ρ) fun _ => some (.exc c)
section
variable {X : Cx} {a : Expr} {fa : FnE} {np cpos pos : Pos} {x : Str} {C : Addr}
end
end FD
namespace FD
open PySem PySem.Spec PyProof.Rows L2 PySem.W Builtin.Getset_descriptor
section
variable {prog : Program} {w : World} {A : Around} {E : Value → Shared → Prop} {s : Shared} {K : PySem.W.Frag} {x C : Addr} {ox : Obj}
structure XI (K : PySem.W.Frag) (C : Addr) : Prop where
  ga : findIn K (.ref C) "__getattribute__" = some (some (.builtin "BaseException.__getattribute__"))
  gt : findIn K (.ref C) "__getattr__" = some none
  cl : findIn K (.ref C) "__class__" = some (some (.builtin "object.__class__"))
  sp : specialIn K (.builtin "object.__class__") "__get__" = some (some (.builtin "getset_descriptor.__get__"))
  tk : takesIn K (.builtin "object.__class__") = some true
  ob : mroIn K C (.type "object") = some true
  be : mroIn K C (.type "BaseException") = some true
end
def XT (K : PySem.W.Frag) (tb : Nat → Option Bool) (T : Value) : Prop := ∀ c b, tb c = some b → ∀ C, nsIn K mainGlobals (xnm c) = some (some (.ref C)) → XI K C ∧ kitOne K (.ref C) T = some b
section
variable {X : Cx} {p pos pT : Pos} {a : Expr} {fa : FnE} {T : Str}
end
end FD
namespace FD
open PySem PySem.Spec PyProof.Rows L2 PySem.W
section
variable {X : Cx} {pins : List (Addr × Obj)} {σ : L2.St} {H : Hp} {s : Shared}
end
structure RoomM (k : Nat) (A : Around) : Prop where
  dp : A.depth + 3 * k + 5 < recursionLimit
  un : A.units + 16 * k + 200 < cLine
theorem RoomM.of {k : Nat} {A : Around} (r : Room k A) : RoomM k A := ⟨r.dp, r.un⟩
theorem RoomM.mono {j k : Nat} {A : Around} (r : RoomM k A) (h : j ≤ k) : RoomM j A := ⟨by have := r.dp; omega, by have := r.un; omega⟩
theorem RoomM.deeper {k : Nat} {A : Around} (r : RoomM (k + 1) A) (env : Env) : RoomM k (A.deeper env) :=
  ⟨by have := r.dp; show A.depth + 1 + 3 * k + 5 < _; omega, by have := r.un; show A.units + 3 + 16 * k + 200 < _; omega⟩
theorem RoomM.units {k : Nat} {A : Around} (r : RoomM k A) : A.units + 64 < cLine := by have := r.un; omega
structure FnM (P : Program) (w : World) (K : PySem.W.Frag) (mg : Str → Option Value) (base : Heap) (k : Nat) (f : Addr) (fd : FuncData) (ps : List Str) (F : List Dv → Option (Rs Dv)) : Prop where
  run : ∀ (A : Around) (outer : List Env) (s : Shared) (H : Hp) (args : Args) (us : List Value) (vs : List V) (ds : List Dv) (d : Dv) (Q : VK), RoomM k A → Env0 P w K mg base A outer s H → BindsTo s fd args (ps.zip us) → Vals vs us →
    Reps K H ds vs → ds.length = ps.length → F ds = some (.ok d) → (∀ v H', Same H H' → Rep K H' d v → Q v H') → codeAny (model P w) A (.call (.ref f) args) (CR CX0 outer P w H s Q E0) s
section
variable {X : Cx} {x : Str} {p pos : Pos} {e : Expr} {es : List Expr} {g : FnA} {n : Nat}
end
end FD
namespace FD
open PySem PySem.Spec PyProof.Rows L2 PySem.W
section
variable {X : Cx} {pl ps : List (Addr × Obj)} {σ : L2.St} {H : Hp} {s : Shared} {E : Value → Shared → Prop} {e : Addr}
end
end FD
namespace FD
open PySem PySem.Spec PyProof.Rows L2 PySem.W
section
variable {X : Cx} {ex hx : Expr} {f g : FnE} {J n : Str} {CJ : Addr} {np rp rp2 hpos pos : Pos}
end
end FD
namespace FD
open PySem PySem.Spec PyProof.Rows L2
section
variable {X : Cx} {apos cpos : Pos} {e o : Expr} {es : List Expr} {ga : FnA} {fo : FnE}
end
section
variable {X : Cx} {a b c : Expr} {fa fb fc : FnE} {pos : Pos}
end
section
variable {X : Cx}
end
end FD
namespace FD
open PySem PySem.Spec PyProof.Rows L2 PySem.W
structure XAll (K : PySem.W.Frag) (m : Nat) (cls : Nat → Addr) (CJ : Addr) : Prop where
  at_ : ∀ c, c < m → nsIn K mainGlobals (xnm c) = some (some (.ref (cls c))) ∧ excIn K (cls c) bmV "ValueError.__new__" = true ∧ XI K (cls c) ∧ mroIn K (cls c) (.ref CJ) = some true ∧ kitOne K (.ref (cls c)) (.type "ValueError") = some true ∧ ∀ d, d < m → kitOne K (.ref (cls c)) (.ref (cls d)) = some (c == d)
  exJ : excIn K CJ bmV "ValueError.__new__" = true
section
variable {K : PySem.W.Frag} {m : Nat} {cls : Nat → Addr} {CJ : Addr} (x : XAll K m cls CJ)
include x
theorem XAll.xc (c : Nat) (h : c < m) : XC K c (cls c) := ⟨(x.at_ c h).1, (x.at_ c h).2.1⟩
theorem XAll.same {c : Nat} {C : Addr} (h : c < m) (q : nsIn K mainGlobals (xnm c) = some (some (.ref C))) : C = cls c := by
  have z := (x.at_ c h).1
  rw [q] at z
  cases z
  rfl
theorem XAll.xtO (d : Nat) (hd : d < m) : XT K (fun c => if c < m then some (c == d) else none) (.ref (cls d)) := fun c b hb C q => by
  dsimp only at hb
  split at hb
  · rename_i h
    cases hb
    rw [x.same h q]
    exact ⟨(x.at_ c h).2.2.1, (x.at_ c h).2.2.2.2.2 d hd⟩
  · cases hb
theorem XAll.xtV : XT K (fun c => if c < m then some true else none) (.type "ValueError") := fun c b hb C q => by
  dsimp only at hb
  split at hb
  · rename_i h
    cases hb
    rw [x.same h q]
    exact ⟨(x.at_ c h).2.2.1, (x.at_ c h).2.2.2.2.1⟩
  · cases hb
end
end FD
namespace FD
open PySem
end FD
namespace FD
open PySem PySem.Spec PyProof.Rows L2
def stripD : Str → List Dv → Option (Rs Dv)
  | x, [.str y] => if x.length ≤ 100000 then some (.ok (.str (Txt.stripChars x y))) else none
  | _, _ => none
def rStrip : V → List V → Hp → VK → Prop := fun x xs H Q => ∃ i j, x = .str i ∧ xs = [.str j] ∧ i.length ≤ sizeLine ∧ Q (.str (Txt.stripChars i j)) H
section
variable {X : Cx}
theorem mt_strip : MtR X "str.strip" rStrip := by
  intro pins s σ H x xs v us Q I rx rs h
  obtain ⟨i, j, rfl, rfl, hl, q⟩ := h
  obtain ⟨t, rfl⟩ := rx
  obtain ⟨u, rfl, ru⟩ := vals1 rs
  obtain ⟨t', rfl⟩ := ru
  exact SC.stripChars (fun t2 k => ⟨.str _, H, I.tok k, ⟨_, rfl⟩, q⟩) hl
theorem g_strip (i : Str) (ds : List Dv) (vs : List V) (H : Hp) (Q : VK) (rs : Reps X.K H ds vs) (o : Out X H (stripD i ds) Q) : rStrip (.str i) vs H Q := by
  unfold stripD at o
  split at o
  · rename_i j
    split at o
    · rename_i hl
      obtain ⟨w, rfl, rw'⟩ := reps1 rs
      cases (show w = .str j from rw')
      exact ⟨i, j, rfl, rfl, le_line hl, o _ H (.refl H) rfl⟩
    · exact o.elim
  · exact o.elim
end
end FD
namespace FD
open PySem PySem.Spec PyProof.Rows L2
section
variable {X : Cx}
def addT (x y : Dv) : Option (Rs Dv) := match x, y with
  | .tup a, .tup b => if a.length + b.length ≤ 100000 then some (.ok (.tup (a ++ b))) else none
  | x, y => addD x y
theorem cat_tup0 {prog : Program} {w : World} {A : Around} {E : Value → Shared → Prop} {s : Shared} {t b : Addr} {ws : List Value} {Q : Value → Shared → Prop} (ht : IsTup s.heap t #[]) (hb : IsTup s.heap b ws.toArray) (h0 : Q (.ref b) s) :
    wpAny (model prog w) A (binaryOp .Add (.ref t) (.ref b)) Q E s := by
  obtain ⟨⟨cls, dd, data, sl⟩, ho, hc, n, hd⟩ := id ht
  obtain ⟨⟨cls2, dd2, data2, sl2⟩, ho2, hc2, n2, hd2⟩ := id hb
  simp only at hc hd hc2 hd2
  subst hc hd hc2 hd2
  exact concat_meets ⟨_, ho, rfl⟩ ⟨_, ho2, rfl⟩ noFill_tuple_add seq_tuple_add PySem.F.slot_tuple_add PySem.F.entry_tuple_add (PySem.F.args_tuple_add_2 _ _)
      (tuple_addW0 t b #[] ws.toArray n n2 dd dd2 sl sl2 (by simp)) ⟨ho, ho2, h0⟩
def rCatT0 (K : PySem.W.Frag) : R2 := fun x y H Q => ∃ a b ys, x = .ref a ∧ y = .ref b ∧ SqT K H a [] ∧ SqT K H b ys ∧ Q (.ref b) H
theorem op_catT0 : OpR X (binaryOp .Add) (rCatT0 X.K) := by
  intro pins s σ H x y v u Q I rx ry h
  obtain ⟨a, b, ys, rfl, rfl, ha, hb, q⟩ := h
  cases rx
  cases ry
  obtain ⟨its, r1, p1, _⟩ := I.tuple ha
  obtain ⟨its2, r2, p2, _⟩ := I.tuple hb
  cases r1
  exact cat_tup0 p1 p2 ⟨.ref b, H, I, rfl, q⟩
def rAddT (X : Cx) : R2 := fun x y H Q => rAdd3 x y H Q ∨ (rCatT X.K x y H Q ∨ rCatT0 X.K x y H Q)
theorem o_addT : OpR X (binaryOp .Add) (rAddT X) := o_add.or (op_catT.or op_catT0)
theorem addT_else {x y : Dv} (h : ∀ a b, ¬ (x = .tup a ∧ y = .tup b)) : addT x y = addD x y := by
  unfold addT
  split
  · rename_i a b
    exact absurd ⟨rfl, rfl⟩ (h a b)
  · rfl
theorem g_addT : GOp X (rAddT X) addT := by
  intro dx dy x y H Q rx ry o
  by_cases hc : ∃ a b, dx = .tup a ∧ dy = .tup b
  · obtain ⟨a, b, rfl, rfl⟩ := hc
    have o' : Out X H (if a.length + b.length ≤ 100000 then some (.ok (.tup (a ++ b))) else none) Q := o
    split at o'
    · rename_i hl
      obtain ⟨p, xs, rfl, h1, q1⟩ := rx.tupE
      obtain ⟨p2, ys, rfl, h2, q2⟩ := ry.tupE
      cases xs with
      | nil =>
        have ha : a = [] := by
          have := q1.length
          exact List.length_eq_zero_iff.mp this.symm
        subst ha
        exact .inr (.inr ⟨p, p2, ys, rfl, rfl, SqT.of h1, SqT.of h2, o' _ H (.refl H) ⟨p2, ys, rfl, h2, by simpa using q2⟩⟩)
      | cons x0 xs =>
        refine .inr (.inl ⟨p, p2, x0 :: xs, ys, rfl, rfl, SqT.of h1, SqT.of h2, by simp, by rw [q1.length, q2.length]; exact le_line hl, fun hy => ?_, fun hy l hl => o' _ _ (same_new hl _) ⟨l, _, rfl, upd_same, Reps.mono (same_new hl _) _ _ (q1.append q2)⟩⟩)
        subst hy
        have hb : b = [] := List.length_eq_zero_iff.mp q2.length.symm
        subst hb
        exact o' _ H (.refl H) ⟨p, _, rfl, h1, by simpa using q1⟩
    · exact o'.elim
  · rw [addT_else (fun a b h => hc ⟨a, b, h⟩)] at o
    exact .inl (g_add dx dy x y H Q rx ry o)
theorem getItem_tuple_whole {prog : Program} {w : World} {A : Around} {E : Value → Shared → Prop} {s : Shared} {t sl : Addr} {items : Array Value} {vl vu : Value} {lo hi : Option Int} {Q : Value → Shared → Prop} (ht : IsTup s.heap t items) (hs : s.heap.IsSliceOf sl vl vu .none) (pl : IsPart vl lo) (pu : IsPart vu hi)
    (hw : HT.sIx items.size 0 lo = 0 ∧ HT.sIx items.size items.size hi = items.size) (h : Q (.ref t) s) : wpAny (model prog w) A (getItem (.ref t) (.ref sl)) Q E s := by
  obtain ⟨os, hos, hcs, hds⟩ := id hs
  have hTs : s.TypeIs (.ref sl) "slice" := ⟨os, hos, hcs⟩
  unfold getItem
  try with_reducible refine wpAny_holding ?_
  first | refine wpAny_bind (wpAny_pure ?_) | skip
  refine wpAny_bind (wpAny_sequenceKey ht.typeIs (by decide) ?_)
  refine wpAny_bind (wpAny_callSpecial?_slot (name := Str.ofString "__getitem__") ht.typeIs PyProof.Rows.slot_tuple_getitem
    (wpAny_call_entry PyProof.Rows.slot_tuple_getitem ht.typeIs entry_tuple_getitem ?_ (args_tuple_getitem _ _)))
  show wpAny _ _ (Builtin.Tuple.tupleItemsOf (.ref t) >>= _) _ _ s
  refine wpAny_bind (tupleItemsOf_ ht ?_)
  refine wpAny_bind (wpAny_typeOf hTs ?_)
  rw [if_pos (by decide)]
  refine wpAny_bind (HT.sliceApplied_gen hs pl pu ?_)
  have hyes : (((HT.sIx items.size 0 lo : Nat) : Int) == 0 && (1 : Int) == 1 && (HT.sIx items.size items.size hi - HT.sIx items.size 0 lo) == items.size) = true := by
    rw [hw.1, hw.2]
    simp
  show wpAny _ _ (if (((HT.sIx items.size 0 lo : Nat) : Int) == 0 && (1 : Int) == 1 && (HT.sIx items.size items.size hi - HT.sIx items.size 0 lo) == items.size) = true then _ else _) _ _ s
  rw [if_pos hyes]
  refine wpAny_bind (wpAny_bind (wpAny_typeOf ht.typeIs (wpAny_pure ?_)))
  rw [if_pos (by decide)]
  exact wpAny_bind (wpAny_rule (wpAny_pure ⟨_, rfl, wpAny_pure h⟩))
def rSlW (K : PySem.W.Frag) : V → Option Int → Option Int → Hp → VK → Prop := fun x lo hi H Q => ∃ a xs, x = .ref a ∧ SqT K H a xs ∧
  (HT.sIx xs.length 0 lo = 0 ∧ HT.sIx xs.length xs.length hi = xs.length) ∧ Q (.ref a) H
theorem sl_whole : SlR X (rSlW X.K) := by
  intro pins s σ H x v vl vu lo hi sl Q I rx hs pl pu h
  obtain ⟨a, xs, rfl, hx, hw, q⟩ := h
  cases rx
  obtain ⟨its, r, ht, hz⟩ := I.tuple hx
  have hlen : its.toArray.size = xs.length := by rw [List.size_toArray]; exact r.length.symm
  refine ⟨"tuple", _, PyProof.Rows.slot_tuple_getitem.lookup, ht.typeIs, ?_⟩
  exact getItem_tuple_whole ht hs pl pu (by rw [hlen]; exact hw) ⟨.ref a, H, I, rfl, q⟩
def cutT (x : Dv) (lo hi : Option Int) : Option (Rs Dv) := match x with
  | .tup xs => some (.ok (.tup (cutL xs lo hi)))
  | x => cutD x lo hi
def fCutT (fa : FnE) (fl fh : FnO) : FnE := fun ρ => bnd (fa ρ) fun x => bnd (fl ρ) fun lo => bnd (fh ρ) fun hi => cutT x lo hi
theorem cutL_whole {α : Type} {xs : List α} {lo hi : Option Int} (h : HT.sIx xs.length 0 lo = 0 ∧ HT.sIx xs.length xs.length hi = xs.length) : cutL xs lo hi = xs := by
  unfold cutL
  rw [h.1, h.2]
  simp
theorem fe_cutT {a : Expr} {lo hi : Option Expr} {fa : FnE} {fl fh : FnO} {p2 pos : Pos} (ha : FE X a fa) (hl : FO X lo fl) (hh : FO X hi fh) : FE X (.Subscript a (.Slice lo hi none p2) pos) (fCutT fa fl fh) :=
  fe_of (pe_slice ((sl_str.or sl_list).or (sl_tup.or sl_whole)) ha.h hl.h hh.h) fun σ H Q ρ E o => ⟨ρ, E, Out.bind o fun d v H1 e1 r1 o1 => ⟨ρ, E.mono e1, outO_bind o1 fun l H2 e2 o2 => ⟨ρ, (E.mono e1).mono e2, outO_bind o2 fun u H3 e3 o3 => by
    have r3 := Rep.mono e3 d v (Rep.mono e2 d v r1)
    cases d <;> try exact (show False from o3).elim
    · rename_i z
      unfold cutT cutD at o3
      dsimp only at o3
      split at o3
      · rename_i hz
        exact .inl (.inl ⟨z, r3, le_line hz, o3 _ H3 (.refl H3) rfl⟩)
      · exact o3.elim
    · rename_i ds
      obtain ⟨a', xs, rfl, h1, h2⟩ := r3.tupE
      have hlen := h2.length
      by_cases hw : HT.sIx xs.length 0 l = 0 ∧ HT.sIx xs.length xs.length u = xs.length
      · refine .inr (.inr ⟨a', xs, rfl, SqT.of h1, hw, o3 _ H3 (.refl H3) ⟨a', xs, rfl, h1, ?_⟩⟩)
        rw [cutL_whole (by rw [← hlen]; exact hw)]
        exact h2
      · refine .inr (.inl ⟨a', xs, rfl, SqT.of h1, hw, fun p hp => o3 _ _ (same_new hp _) ⟨p, _, rfl, upd_same, Reps.mono (same_new hp _) _ _ ?_⟩⟩)
        unfold cutV cutL
        rw [h2.length]
        exact (h2.drop _).take _
    · rename_i ds
      obtain ⟨a', xs, rfl, h1, h2⟩ := r3.lstE
      refine .inl (.inr ⟨a', xs, rfl, SqL.of h1, fun p hp => o3 _ _ (same_new hp _) ⟨p, _, rfl, upd_same, Reps.mono (same_new hp _) _ _ ?_⟩⟩)
      unfold cutV cutL
      rw [h2.length]
      exact (h2.drop _).take _⟩⟩⟩
theorem filterMap_map' {α β : Type} {f : α → Option β} {g : α → β} : ∀ (l : List α), (∀ m, m ∈ l → f m = some (g m)) → l.filterMap f = l.map g
  | [], _ => rfl
  | x :: l, h => by
    rw [List.filterMap_cons, h x (by simp), List.map_cons, filterMap_map' l fun m hm => h m (List.mem_cons_of_mem _ hm)]
theorem pick_back (xs : List Value) : ((List.range xs.length).filterMap fun (m : Nat) => xs.toArray[((xs.length : Int) - 1 + (m : Int) * -1).toNat]?).toArray = xs.reverse.toArray := by
  congr 1
  apply List.ext_getElem?
  have e : ∀ m, m ∈ List.range xs.length → (xs.toArray[((xs.length : Int) - 1 + (m : Int) * -1).toNat]?) = some (xs.reverse[m]?.getD .none) := fun m hm => by
    have hm' : m < xs.length := List.mem_range.mp hm
    have h1 : ((xs.length : Int) - 1 + (m : Int) * -1).toNat = xs.length - 1 - m := by omega
    rw [h1, List.getElem?_toArray, List.getElem?_reverse hm', List.getElem?_eq_getElem (by omega)]
    rfl
  intro i
  rw [filterMap_map' _ e]
  by_cases hi : i < xs.length
  · rw [List.getElem?_map, List.getElem?_range hi]
    show some (xs.reverse[i]?.getD .none) = _
    rw [List.getElem?_eq_getElem (by simpa using hi)]
    rfl
  · rw [List.getElem?_eq_none (by simpa using hi), List.getElem?_eq_none (by simpa using hi)]
theorem Reps.reverse {K : PySem.W.Frag} {H : Hp} : ∀ {ds : List Dv} {vs : List V}, Reps K H ds vs → Reps K H ds.reverse vs.reverse
  | [], vs, r => by cases (show vs = [] from r); exact r
  | d :: ds, vs, r => by
    obtain ⟨v, us, rfl, r1, r2⟩ : ∃ v us, vs = v :: us ∧ Rep K H d v ∧ Reps K H ds us := r
    rw [List.reverse_cons, List.reverse_cons]
    exact (Reps.reverse r2).append ⟨v, [], rfl, r1, rfl⟩
theorem Vals.reverse : ∀ {xs : List V} {us : List Value}, Vals xs us → Vals xs.reverse us.reverse
  | _, _, .nil => .nil
  | x :: xs, u :: us, .cons r t => by
    rw [List.reverse_cons, List.reverse_cons]
    exact (Vals.reverse t).append (.cons r .nil)
def sixD : Str → List Dv → Option (Rs Dv)
  | x, [.str y] => match Builtin.Str.occurrences x y 0 x.length 1 with
    | i :: _ => some (.ok (.int i))
    | [] => none
  | _, _ => none
def rSix : V → List V → Hp → VK → Prop := fun x xs H Q => ∃ i j k l, x = .str i ∧ xs = [.str j] ∧ Builtin.Str.occurrences i j 0 i.length 1 = k :: l ∧ Q (.int (k : Nat)) H
theorem mt_six : MtR X "str.index" rSix := by
  intro pins s σ H x xs v us Q I rx rs h
  obtain ⟨i, j, k, l, rfl, rfl, ho, q⟩ := h
  obtain ⟨t, rfl⟩ := rx
  obtain ⟨u, rfl, ru⟩ := vals1 rs
  obtain ⟨t', rfl⟩ := ru
  exact SC.index ho ⟨.int _, H, I.tok _, ⟨_, rfl⟩, q⟩
theorem g_six (i : Str) (ds : List Dv) (vs : List V) (H : Hp) (Q : VK) (rs : Reps X.K H ds vs) (o : Out X H (sixD i ds) Q) : rSix (.str i) vs H Q := by
  unfold sixD at o
  split at o
  · rename_i j
    obtain ⟨w, rfl, rw'⟩ := reps1 rs
    cases (show w = .str j from rw')
    match hk : Builtin.Str.occurrences i j 0 i.length 1 with
    | [] => rw [hk] at o; exact o.elim
    | k :: l => rw [hk] at o; exact ⟨i, j, k, l, rfl, rfl, hk, o _ H (.refl H) rfl⟩
  · exact o.elim
end
end FD
namespace FD
open PySem PySem.Spec PyProof.Rows L2
abbrev lobj (its : List Value) (n : Nat) : Obj := { cls := .type "list", data := .seq its.toArray n }
section
variable {X : Cx} {pins : List (Addr × Obj)} {σ : L2.St} {H : Hp} {s : Shared} {a : Addr} {xs : List V}
theorem Inv.untrack (I : Inv X pins σ (upd H a (.lst xs)) s) (ha : H a = none) (hex : X.ex = []) : ∃ its n, Vals xs its ∧ xs.length ≤ sizeLine ∧ (∀ o, X.s₀.heap.get? a = some o → X.H₀ a ≠ none) ∧ (∀ p ∈ X.pn ++ pins, p.1 ≠ a) ∧ Inv X (pins ++ [(a, lobj its n)]) σ H s := by
  obtain ⟨z, its, n, rv, hl, e⟩ := I.lstM (l := a) (xs := xs) upd_same
  have hb : ∀ b u, H b = some u → b ≠ a := fun b u q => ne_of_none q ha
  have low : ∀ b, upd H a (.lst xs) b = none → H b = none := fun b q => by
    by_cases hba : b = a
    · rw [hba]; exact ha
    · rw [upd_ne hba] at q; exact q
  have dn : ∀ b u, upd H a (.lst xs) b = some u → (∀ ys, u ≠ .lst ys) → H b = some u := fun b u q hu => by
    by_cases hba : b = a
    · rw [hba, upd_same] at q
      exact absurd (Option.some.inj q).symm (hu xs)
    · rw [upd_ne hba] at q; exact q
  have nfs : a ∉ X.fs := fun hm => by
    obtain ⟨_, o, ho, _⟩ := I.ok.funs.mem hm
    have := I.base.free a o ho (I.ok.frf a hm) (by rw [hex]; simp)
    rw [upd_same] at this
    cases this
  have npin : ∀ p ∈ X.pn ++ pins, p.1 ≠ a := fun p hp w => by
    have := (I.pin p hp).2.1
    rw [w, upd_same] at this
    cases this
  refine ⟨its, n, rv, z, fun o ho h0 => ?_, npin, ⟨I.ok, I.os, I.bare, ⟨I.base.keep, I.base.slot, fun b o q n hx => low b (I.base.free b o q n hx), I.base.there, fun b ys q => dn b _ (I.base.tups b ys q) (fun _ w => by cases w), fun b o u q => dn b _ (I.base.frzs b o u q) (fun _ w => by cases w), fun b ps q => ?_⟩, I.loc, I.cell, low _ I.free, fun x c q => low _ (I.freeC x c q), fun p hp => ?_, fun b u q => ?_, I.len⟩⟩
  · have := I.base.free a o ho h0 (by rw [hex]; simp)
    rw [upd_same] at this
    cases this
  · obtain ⟨more, q'⟩ := I.base.tbls b ps q
    exact ⟨more, dn b _ q' (fun _ w => by cases w)⟩
  · rcases List.mem_append.mp hp with h1 | h1
    · obtain ⟨q1, q2, q3⟩ := I.pin p (List.mem_append_left _ h1)
      exact ⟨q1, low _ q2, q3⟩
    · rcases List.mem_append.mp h1 with h1 | h1
      · obtain ⟨q1, q2, q3⟩ := I.pin p (List.mem_append_right _ h1)
        exact ⟨q1, low _ q2, q3⟩
      · simp only [List.mem_singleton] at h1
        subst h1
        refine ⟨e, ha, fun w => ?_, nfs, fun v w => by cases w⟩
        obtain ⟨m, ⟨o, es, ep, ho, hd, _⟩, _⟩ := I.loc
        have w' : a = X.env.locals := w
        rw [← w', e] at ho
        cases ho
        cases hd
  · have hq : upd H a (.lst xs) b = some u := by rw [upd_ne (hb b u q)]; exact q
    refine (I.hok b u hq).stay (fun _ _ _ w => w) (fun c w => dn c _ w (fun _ w => by cases w)) fun c ys w => dn c _ w (fun _ w => by cases w)
theorem Inv.retrack {its : List Value} {n : Nat} (I : Inv X (pins ++ [(a, lobj its n)]) σ H s) (rv : Vals xs its) (hz : xs.length ≤ sizeLine) (h0 : ∀ o, X.s₀.heap.get? a = some o → X.H₀ a ≠ none) (hp0 : ∀ p ∈ X.pn ++ pins, p.1 ≠ a) : H a = none ∧ Inv X pins σ (upd H a (.lst xs)) s := by
  obtain ⟨e, ha, nL, nf, nc⟩ := I.pin (a, lobj its n) (List.mem_append_right _ (List.mem_append_right _ (by simp)))
  have up : ∀ b u, H b = some u → upd H a (.lst xs) b = some u := fun b u q => by rw [upd_ne (ne_of_none q ha)]; exact q
  have lo : ∀ b, H b = none → b ≠ a → upd H a (.lst xs) b = none := fun b q h => by rw [upd_ne h]; exact q
  refine ⟨ha, ⟨I.ok, I.os, I.bare, ⟨I.base.keep, I.base.slot, fun b o q n hx => lo b (I.base.free b o q n hx) (fun w => h0 o (w ▸ q) (w ▸ n)), I.base.there, fun b ys q => up b _ (I.base.tups b ys q), fun b o u q => up b _ (I.base.frzs b o u q), fun b ps q => ?_⟩, I.loc, I.cell, lo _ I.free (Ne.symm nL), fun x c q => lo _ (I.freeC x c q) (fun w => ?_), fun p hp => ?_, fun b u q => ?_, I.len⟩⟩
  · obtain ⟨more, q'⟩ := I.base.tbls b ps q
    exact ⟨more, up b _ q'⟩
  · obtain ⟨v, o, ho, hd⟩ := I.cell x c q
    rw [w] at ho
    have e' : s.heap.get? a = some (lobj its n) := e
    rw [e'] at ho
    cases ho
    cases hd
  · obtain ⟨q1, q2, q3⟩ := I.pin p (by
      rcases List.mem_append.mp hp with h1 | h1
      · exact List.mem_append_left _ h1
      · exact List.mem_append_right _ (List.mem_append_left _ h1))
    exact ⟨q1, lo _ q2 (hp0 p hp), q3⟩
  · by_cases hb : b = a
    · subst hb
      rw [upd_same] at q
      cases q
      exact ⟨hz, its, n, rv, e⟩
    · rw [upd_ne hb] at q
      exact (I.hok b u q).stay (fun _ _ _ w => w) (fun c w => up c _ w) fun c ys w => up c _ w
end
def liftE (t : TE) : TE := fun σ Hf Q => ∃ H a xs, Hf = upd H a (.lst xs) ∧ H a = none ∧ t σ H fun v H' => H' a = none → Q v (upd H' a (.lst xs))
def liftT (t : TT) : TT := fun σ Hf Q => ∃ H a xs, Hf = upd H a (.lst xs) ∧ H a = none ∧ t σ H fun v H' => H' a = none → Q v (upd H' a (.lst xs))
def liftA (t : TA) : TA := fun σ Hf Q => ∃ H a xs, Hf = upd H a (.lst xs) ∧ H a = none ∧ t σ H fun v H' => H' a = none → Q v (upd H' a (.lst xs))
def liftI (t : TI) : TI := fun σ Hf Q => ∃ H a xs, Hf = upd H a (.lst xs) ∧ H a = none ∧ t σ H fun v H' => H' a = none → Q v (upd H' a (.lst xs))
section
variable {X : Cx} {e : Expr} {es : List Expr}
theorem pe_lift (hex : X.ex = []) {t : TE} (h : PE X e t) : PE X e (liftE t) := by
  intro pins s σ Hf Q I ⟨H, a, xs, e1, ha, q⟩
  subst e1
  obtain ⟨its, n, rv, hz, h0, hp, I'⟩ := Inv.untrack I ha hex
  refine thn (h _ s σ H _ I' q) fun u s' ⟨v, H', I2, r, q2⟩ => ?_
  obtain ⟨ha', I3⟩ := Inv.retrack I2 rv hz h0 hp
  exact ⟨v, _, I3, r, q2 ha'⟩
theorem pt_lift (hex : X.ex = []) {t : TT} (h : PT X e t) : PT X e (liftT t) := by
  intro pins s σ Hf Q I ⟨H, a, xs, e1, ha, q⟩
  subst e1
  obtain ⟨its, n, rv, hz, h0, hp, I'⟩ := Inv.untrack I ha hex
  refine thn (h _ s σ H _ I' q) fun u s' ⟨H', I2, q2⟩ => ?_
  obtain ⟨ha', I3⟩ := Inv.retrack I2 rv hz h0 hp
  exact ⟨_, I3, q2 ha'⟩
theorem pa_lift (hex : X.ex = []) {t : TA} (h : PA X es t) : PA X es (liftA t) := by
  intro pos pins s σ Hf Q I ⟨H, a, xs, e1, ha, q⟩
  subst e1
  obtain ⟨its, n, rv, hz, h0, hp, I'⟩ := Inv.untrack I ha hex
  refine thn (h pos _ s σ H _ I' q) fun u s' ⟨v, H', I2, r, q2⟩ => ?_
  obtain ⟨ha', I3⟩ := Inv.retrack I2 rv hz h0 hp
  exact ⟨v, _, I3, r, q2 ha'⟩
theorem pi_lift (hex : X.ex = []) {tg : Expr} {t : TI} (h : PI X tg e t) : PI X tg e (liftI t) := by
  intro pins s σ Hf R I ⟨H, a, xs, e1, ha, q⟩
  subst e1
  obtain ⟨its, n, rv, hz, h0, hp, I'⟩ := Inv.untrack I ha hex
  refine thn (h _ s σ H _ I' q) fun u s1 hs1 => thn hs1 fun itv s2 ⟨it, fp, tn, J, H', e2, I2, T, t0, fpo, q2⟩ => ?_
  obtain ⟨ha', I3⟩ := Inv.retrack I2 rv hz h0 hp
  refine ⟨it, fp, tn, J, _, e2, I3, T, t0, fun b hb => ?_, q2 ha'⟩
  obtain ⟨g0, g1, g2, g3, g4, g5⟩ := fpo b hb
  have hba : b ≠ a := fun w => g5 (a, lobj its n) (List.mem_append_right _ (List.mem_append_right _ (by simp))) w.symm
  refine ⟨by rw [upd_ne hba]; exact g0, g1, g2, g3, g4, fun p hp' => g5 p ?_⟩
  rcases List.mem_append.mp hp' with w | w
  · exact List.mem_append_left _ w
  · exact List.mem_append_right _ (List.mem_append_left _ w)
end
mutual
def imm : Dv → Bool
  | .non => true
  | .bl _ => true
  | .int _ => true
  | .str _ => true
  | .tup ds => imms ds
  | .lst _ => false
  | .scr _ => false
  | .exn _ => false
def imms : List Dv → Bool
  | [] => true
  | d :: ds => imm d && imms ds
end
section
variable {K : PySem.W.Frag} {H H' : Hp}
mutual
theorem Rep.tups (k : ∀ b ys, H b = some (.tup ys) → H' b = some (.tup ys)) : ∀ (d : Dv) (v : V), imm d = true → Rep K H d v → Rep K H' d v
  | .non, _, _, h => h
  | .bl _, _, _, h => h
  | .int _, _, _, h => h
  | .str _, _, _, h => h
  | .tup ds, v, i, h => by
    obtain ⟨a, xs, r, h, q⟩ := h.tupE
    exact ⟨a, xs, r, k _ _ h, Reps.tups k ds xs (by simpa [imm] using i) q⟩
  | .lst _, _, i, _ => by simp [imm] at i
  | .scr _, _, i, _ => by simp [imm] at i
  | .exn _, _, i, _ => by simp [imm] at i
theorem Reps.tups (k : ∀ b ys, H b = some (.tup ys) → H' b = some (.tup ys)) : ∀ (ds : List Dv) (vs : List V), imms ds = true → Reps K H ds vs → Reps K H' ds vs
  | [], _, _, h => h
  | d :: ds, vs, i, h => by
    obtain ⟨v, us, r, h, q⟩ : ∃ v us, vs = v :: us ∧ Rep K H d v ∧ Reps K H ds us := h
    have i' : imm d = true ∧ imms ds = true := by simpa [imms] using i
    exact ⟨v, us, r, Rep.tups k d v i'.1 h, Reps.tups k ds us i'.2 q⟩
end
end
end FD
namespace FD
open PySem PySem.Spec PyProof.Rows L2
inductive Fo where
  | nx (ρ : Ev) (ds : List Dv)
  | rt (d : Dv)
abbrev FnO2 := Ev → List Dv → Option Fo
def OutW (X : Cx) (i : Nat) (a : Addr) (H : Hp) (o : Option Fo) (D : Ends) : Prop := match o with
  | none => False
  | some (.rt d) => ∀ v H', Same H H' → Rep X.K H' d v → D.rt v H'
  | some (.nx ρ ds) => ∀ σ H' xs, Same H H' → H' a = none → σ[i]? = some (some (.ref a)) → Envs X.K H' σ ρ → Reps X.K H' ds xs → D.nx σ (upd H' a (.lst xs))
theorem OutW.mono {X : Cx} {i : Nat} {a : Addr} {H H' : Hp} {D : Ends} (e : Same H H') : ∀ {o : Option Fo}, OutW X i a H o D → OutW X i a H' o D
  | none, h => h
  | some (.rt _), h => fun v H1 e1 r => h v H1 (e.trans e1) r
  | some (.nx _ _), h => fun σ H1 xs e1 => h σ H1 xs (e.trans e1)
def tO (X : Cx) (i : Nat) (f : FnO2) : TS := fun D σ Hf => ∃ H a xs ρ ds, Hf = upd H a (.lst xs) ∧ H a = none ∧ σ[i]? = some (some (.ref a)) ∧ Envs X.K H σ ρ ∧ Reps X.K H ds xs ∧ OutW X i a H (f ρ ds) D
structure FO1 (X : Cx) (i : Nat) (st : Stmt) (f : FnO2) : Prop where
  h : PS X st (tO X i f)
structure FOs (X : Cx) (i : Nat) (st : List Stmt) (f : FnO2) : Prop where
  h : PSs X st (tO X i f)
def bndO {α : Type} (o : Option (Rs α)) (k : α → Option Fo) : Option Fo := match o with
  | some (.ok a) => k a
  | _ => none
def oNil : FnO2 := fun ρ ds => some (.nx ρ ds)
def oSeq (f g : FnO2) : FnO2 := fun ρ ds => match f ρ ds with
  | some (.nx ρ' ds') => g ρ' ds'
  | o => o
def oSet (j : Nat) (f : FnE) : FnO2 := fun ρ ds => bndO (f ρ) fun d => some (.nx (ρ.set j (some d)) ds)
def oIf (c : FnB) (f g : FnO2) : FnO2 := fun ρ ds => bndO (c ρ) fun k => if k then f ρ ds else g ρ ds
def oRet (i : Nat) (f : FnE) : FnO2 := fun ρ ds => bndO (f (ρ.set i (some (.lst ds)))) fun d => some (.rt d)
def oApp (f : FnE) : FnO2 := fun ρ ds => if ds.length < 100000 then bndO (f ρ) fun d => some (.nx ρ (ds ++ [d])) else none
section
variable {X : Cx} {i : Nat} {st : Stmt} {sts : List Stmt} {f g : FnO2} {fe : FnE} {gb : FnB} {e c : Expr} {pos : Pos}
theorem same_full {H : Hp} {a : Addr} {xs : List V} (ha : H a = none) : Same H (upd H a (.lst xs)) := same_new ha _
theorem envs_full {H : Hp} {a : Addr} {xs : List V} {σ : L2.St} {ρ : Ev} {ds : List Dv} (ha : H a = none) (hi : σ[i]? = some (some (.ref a))) (E : Envs X.K H σ ρ) (r : Reps X.K H ds xs) : Envs X.K (upd H a (.lst xs)) σ (ρ.set i (some (.lst ds))) := by
  have E' := E.mono (same_full (xs := xs) ha)
  refine ⟨by rw [List.length_set]; exact E'.len, fun j d hj => ?_⟩
  by_cases hij : i = j
  · subst hij
    by_cases hl : i < ρ.length
    · rw [List.getElem?_set_self hl] at hj
      cases hj
      exact ⟨.ref a, hi, a, xs, rfl, upd_same, Reps.mono (same_full ha) _ _ r⟩
    · rw [List.getElem?_eq_none (by rw [List.length_set]; omega)] at hj
      cases hj
  · rw [List.getElem?_set_ne hij] at hj
    exact E'.at' j d hj
theorem fos_nil : FOs X i [] oNil := ⟨fun pins s σ Hf D I ⟨H, a, xs, ρ, ds, e1, ha, hi, E, r, o⟩ => by
  subst e1
  exact pss_nil pins s σ _ D I (o σ H xs (.refl H) ha hi E r)⟩
theorem fos_cons (h1 : FO1 X i st f) (h2 : FOs X i sts g) : FOs X i (st :: sts) (oSeq f g) := ⟨fun pins s σ Hf D I ⟨H, a, xs, ρ, ds, e1, ha, hi, E, r, o⟩ => by
  refine pss_cons h1.h h2.h pins s σ Hf D I ⟨H, a, xs, ρ, ds, e1, ha, hi, E, r, ?_⟩
  unfold oSeq at o
  match hf : f ρ ds with
  | none => rw [hf] at o; exact o.elim
  | some (.rt d) => rw [hf] at o; exact o
  | some (.nx ρ' ds') => rw [hf] at o; exact fun σ' H' xs' e' ha' hi' E' r' => ⟨H', a, xs', ρ', ds', rfl, ha', hi', E', r', OutW.mono e' o⟩⟩
theorem fos_one (h1 : FO1 X i st f) : FOs X i [st] f := ⟨pss_one h1.h⟩
theorem fo_set (hex : X.ex = []) (j : Nat) (hij : i ≠ j) {x : Str} {pos' : Pos} (hN : X.N.Nodup) (hi : X.N[j]? = some x) (hx : Loc X.env.scope x) (he : FE X e fe) (hs : swapsWith e (some (.Name x pos')) pos.line X.env = pure false := by kernel_rfl) (hf : X.fn x = true ∨ X.env.scope.names.lookup x = some .local := by first | exact .inl rfl | exact .inr rfl | assumption) :
    FO1 X i (.Assign [.Name x pos'] e pos) (oSet j fe) := ⟨fun pins s σ Hf D I ⟨H, a, xs, ρ, ds, e1, ha, hia, E, r, o⟩ => by
  refine ps_set hN hi hx (pe_lift hex he.h) hs hf pins s σ Hf D I ⟨H, a, xs, e1, ha, ρ, E, ?_⟩
  unfold oSet at o
  match hfe : fe ρ with
  | none => rw [hfe] at o; exact o.elim
  | some (.exc _) => rw [hfe] at o; exact o.elim
  | some (.ok d) =>
    rw [hfe] at o
    exact fun v H' e' rd ha' => o _ H' xs e' ha' (by rw [List.getElem?_set_ne (Ne.symm hij)]; exact hia) ((E.mono e').set rd) (Reps.mono e' _ _ r)⟩
theorem fo_if (hex : X.ex = []) {as bs : List Stmt} (hc : FT X c gb) (ha : FOs X i as f) (hb : FOs X i bs g) : FO1 X i (.If c as bs pos) (oIf gb f g) := ⟨fun pins s σ Hf D I ⟨H, a, xs, ρ, ds, e1, ha', hia, E, r, o⟩ => by
  refine ps_if (pt_lift hex hc.h) ha.h hb.h pins s σ Hf D I ⟨H, a, xs, e1, ha', ρ, E, ?_⟩
  unfold oIf at o
  match hg : gb ρ with
  | none => rw [hg] at o; exact o.elim
  | some (.exc _) => rw [hg] at o; exact o.elim
  | some (.ok true) => rw [hg] at o; exact fun H' e' h' => iteT ⟨H', a, xs, ρ, ds, rfl, h', hia, E.mono e', Reps.mono e' _ _ r, OutW.mono e' o⟩
  | some (.ok false) => rw [hg] at o; exact fun H' e' h' => iteF ⟨H', a, xs, ρ, ds, rfl, h', hia, E.mono e', Reps.mono e' _ _ r, OutW.mono e' o⟩⟩
theorem fo_ret (he : FE X e fe) : FO1 X i (.Return (some e) pos) (oRet i fe) := ⟨fun pins s σ Hf D I ⟨H, a, xs, ρ, ds, e1, ha', hia, E, r, o⟩ => by
  subst e1
  refine ps_ret he.h pins s σ _ D I ⟨_, envs_full ha' hia E r, ?_⟩
  unfold oRet at o
  match hg : fe (ρ.set i (some (.lst ds))) with
  | none => rw [hg] at o; exact o.elim
  | some (.exc _) => rw [hg] at o; exact o.elim
  | some (.ok d) => rw [hg] at o; exact fun v H2 e2 rd => o v H2 ((same_full ha').trans e2) rd⟩
theorem fo_app (hex : X.ex = []) {x : Str} {apos cpos : Pos} (hx : PE X (.Name x apos) (tVar i)) (he : FE X e fe)
    (hbase : attributeBase (.Name x apos) "append" X.env (eval (.Name x apos) X.env) = eval (.Name x apos) X.env := by kernel_rfl)
    (hfew : ((backTo cpos (starEach [e] X.env)).all (fun x => !x.1) && (backToKw cpos (keywordEach [] X.env)).all (fun x => x.1.isSome)
      && decide ([e].length + ([] : List Keyword).length + (if ([] : List Keyword).isEmpty then 0 else 1) < 30)) = true := by kernel_rfl)
    {ap : Pos} (hline : (ap.endLine == cpos.line) = true := by kernel_rfl) (hs : starEach [e] X.env = (false, eval e X.env) :: starEach [] X.env := by kernel_rfl) (hplain : (backTo cpos (starEach [] X.env)).any (·.1) = false := by kernel_rfl)
    (hsw : swapsWith (.Call (.Attribute (.Name x apos) "append" ap) [e] [] cpos) none pos.line X.env = pure false := by kernel_rfl) :
    FO1 X i (.Expr (.Call (.Attribute (.Name x apos) "append" ap) [e] [] cpos) pos) (oApp fe) := ⟨fun pins s σ Hf D I ⟨H, a, xs, ρ, ds, e1, ha', hia, E, r, o⟩ => by
  refine ps_expr (pe_bm PySem.F.plainAttrs_list PySem.F.slot_list_append PySem.F.type_list_append mt_append hx (pa_lift hex (fa_cons he fa_nil hs).h) hbase hfew hline hs hplain) hsw pins s σ Hf D I ?_
  unfold oApp at o
  split at o
  · rename_i hl
    match hfe : fe ρ with
    | none => rw [hfe] at o; exact o.elim
    | some (.exc _) => rw [hfe] at o; exact o.elim
    | some (.ok d) =>
      rw [hfe] at o
      refine ⟨.ref a, hia, .inl ⟨rfl, xs, SqL.of (by rw [e1]; exact upd_same)⟩, H, a, xs, e1, ha', ρ, E, ?_⟩
      show OutA X H (aCons fe aNil ρ) _
      rw [aCons_of hfe aNil_of]
      intro vs H' e' rs ha2
      obtain ⟨v, rfl, rv⟩ := reps1 rs
      have hz : xs.length < sizeLine := by
        have := r.length
        have h2 := le_line (n := xs.length + 1) (by omega)
        omega
      refine ⟨a, xs, v, rfl, rfl, upd_same, hz, ?_⟩
      rw [upd_upd]
      exact o σ H' (xs ++ [v]) e' ha2 hia (E.mono e') ((Reps.mono e' _ _ r).append ⟨v, [], rfl, rv, rfl⟩)
  · exact o.elim⟩
end
def fOwn (i : Nat) (g : FnA) (f : FnO2) : FnS := fun ρ => bndS (g ρ) fun ds => if ds.length ≤ 100000 then (match f (ρ.set i none) ds with
  | some (.nx ρ' ds') => some (.nx (ρ'.set i (some (.lst ds'))))
  | some (.rt d) => some (.rt d)
  | none => none) else none
section
variable {X : Cx} {i : Nat} {sts : List Stmt} {f : FnO2} {g : FnA} {es : List Expr} {pos lp : Pos}
theorem fss_own {x : Str} {pos' : Pos} (hN : X.N.Nodup) (hi : X.N[i]? = some x) (hx : Loc X.env.scope x) (hg : FA X es g) (hr : FOs X i sts f) (hs : swapsWith (.List es lp) (some (.Name x pos')) pos.line X.env = pure false := by kernel_rfl)
    (hf : X.fn x = true ∨ X.env.scope.names.lookup x = some .local := by first | exact .inl rfl | exact .inr rfl | assumption) : FSs X (.Assign [.Name x pos'] (.List es lp) pos :: sts) (fOwn i g f) := ⟨fun pins s σ H D I ⟨ρ, E, o⟩ => by
  refine pss_cons (ps_set (i := i) hN hi hx (pe_lst hg.h) hs hf) hr.h pins s σ H D I ⟨ρ, E, ?_⟩
  unfold fOwn at o
  match hgr : g ρ with
  | none => rw [hgr] at o; exact o.elim
  | some (.exc _) => rw [hgr] at o; exact o
  | some (.ok ds) =>
    rw [hgr] at o
    intro vs H1 e1 rs
    have o2 : OutS X H (if ds.length ≤ 100000 then (match f (ρ.set i none) ds with
      | some (.nx ρ' ds') => some (.nx (ρ'.set i (some (.lst ds'))))
      | some (.rt d) => some (.rt d)
      | none => none) else none) D := o
    by_cases hl : ds.length ≤ 100000
    · rw [if_pos hl] at o2
      refine ⟨by rw [rs.length]; exact le_line hl, fun p hp => ?_⟩
      have hil : i < σ.length := by rw [I.len]; exact (List.getElem?_eq_some_iff.mp hi).1
      refine ⟨H1, p, vs, ρ.set i none, ds, rfl, hp, List.getElem?_set_self hil, ?_, rs, ?_⟩
      · have E1 := (E.mono e1).fgt1 i
        refine ⟨by rw [List.length_set]; exact E1.len, fun j d hj => ?_⟩
        by_cases hij : i = j
        · subst hij
          by_cases hl2 : i < ρ.length
          · rw [List.getElem?_set_self hl2] at hj; cases hj
          · rw [List.getElem?_eq_none (by rw [List.length_set]; omega)] at hj; cases hj
        · obtain ⟨v, q1, q2⟩ := E1.at' j d hj
          exact ⟨v, by rw [List.getElem?_set_ne hij]; exact q1, q2⟩
      · match hfr : f (ρ.set i none) ds with
        | none => rw [hfr] at o2; exact o2.elim
        | some (.rt d) => rw [hfr] at o2; exact fun v H' e' r' => o2 v H' (e1.trans e') r'
        | some (.nx ρ' ds') =>
          rw [hfr] at o2
          exact fun σ' H' xs' e' ha' hi' E' r' => o2 σ' _ ((e1.trans e').trans (same_full ha')) (envs_full ha' hi' E' r')
    · rw [if_neg hl] at o2
      exact o2.elim⟩
end
end FD
namespace FD
open PySem PySem.Spec PyProof.Rows L2
def loopO (j : Nat) (js : List Nat) (body : FnO2) : List Dv → Ev → List Dv → Option Fo
  | [], ρ, xs => some (.nx (fgt js ρ) xs)
  | d :: ds, ρ, xs => match body ((fgt js ρ).set j (some d)) xs with
    | some (.nx ρ' xs') => loopO j js body ds ρ' xs'
    | o => o
def oFor (j : Nat) (js : List Nat) (src : FnA) (body : FnO2) : FnO2 := fun ρ xs => bndO (src ρ) fun ds => if imms ds = true then loopO j js body ds ρ xs else none
theorem imms_get : ∀ {ds : List Dv} {n : Nat} {d : Dv}, imms ds = true → ds[n]? = some d → imm d = true
  | [], _, _, _, h => by simp at h
  | e :: ds, 0, d, i, h => by
    have i' : imm e = true ∧ imms ds = true := by simpa [imms] using i
    cases (show some e = some d from h)
    exact i'.1
  | e :: ds, n + 1, d, i, h => by
    have i' : imm e = true ∧ imms ds = true := by simpa [imms] using i
    exact imms_get i'.2 (show ds[n]? = some d from h)
theorem rep_down {K : PySem.W.Frag} {H : Hp} {a : Addr} {xs : List V} {d : Dv} {v : V} (i : imm d = true) (r : Rep K (upd H a (.lst xs)) d v) : Rep K H d v :=
  Rep.tups (fun b ys q => by
    by_cases hb : b = a
    · rw [hb, upd_same] at q; cases q
    · rw [upd_ne hb] at q; exact q) d v i r
theorem fo_for {X : Cx} {i : Nat} {tg iter : Expr} {body : List Stmt} {pos : Pos} {src : FnA} {fb : FnO2} (hex : X.ex = []) (j : Nat) (js : List Nat) (hij : i ≠ j) (hp : PassesOwn (model X.prog X.w) X.A X.env X.xe) (hc : X.calm = true) (hi : FI X tg iter src) (hg : PG X tg (gName j)) (hb : FOs X i body fb)
    (hs : ∀ x, foldedSetIterable iter X.env x = pure x := by intro _; kernel_rfl) : FO1 X i (.For tg iter body [] pos) (oFor j js src fb) := ⟨fun pins s σ Hf D I ⟨H, a, xs, ρ, ds, e1, ha, hia, E, r, o⟩ => by
  refine ps_for hp hc (pi_lift hex hi.h) hg hb.h hs pins s σ Hf D I ⟨H, a, xs, e1, ha, ρ, E, ?_⟩
  unfold oFor at o
  match hf : src ρ with
  | none => rw [hf] at o; exact o.elim
  | some (.exc _) => rw [hf] at o; exact o.elim
  | some (.ok us) =>
    rw [hf] at o
    have o0 : OutW X i a H (if imms us = true then loopO j js fb us ρ ds else none) D := o
    by_cases him : imms us = true
    · rw [if_pos him] at o0
      intro J H1 e1 wk ha1
      have o1 := OutW.mono e1 o0
      refine ⟨fun n m σ' Hf' => m = us.length - n ∧ n ≤ us.length ∧ ∃ H' xs' ρ' ds', Hf' = upd H' a (.lst xs') ∧ H' a = none ∧ Same H1 H' ∧ σ'[i]? = some (some (.ref a)) ∧ Envs X.K H' σ' ρ' ∧ Reps X.K H' ds' xs' ∧ OutW X i a H' (loopO j js fb (us.drop n) ρ' ds') D,
        ⟨us.length, by simp, Nat.zero_le _, H1, xs, ρ, ds, rfl, ha1, .refl H1, hia, E.mono e1, Reps.mono e1 _ _ r, by simpa using o1⟩, ?_⟩
      rintro n m σ' Hf' ⟨rfl, hn, H', xs', ρ', ds', rfl, ha', e2, hia', E', r', o'⟩
      have e2f : Same H1 (upd H' a (.lst xs')) := e2.trans (same_full ha')
      by_cases hlt : n < us.length
      · refine .inr ⟨wk.go n _ e2f hlt, fun σ2 Hf2 => ∃ H2 xs2 ρ2 ds2, Hf2 = upd H2 a (.lst xs2) ∧ H2 a = none ∧ Same H1 H2 ∧ σ2[i]? = some (some (.ref a)) ∧ Envs X.K H2 σ2 ρ2 ∧ Reps X.K H2 ds2 xs2 ∧ OutW X i a H2 (loopO j js fb (us.drop (n + 1)) ρ2 ds2) D,
          fun σ2 Hf2 q => ⟨us.length - (n + 1), by omega, rfl, hlt, q⟩, fun x H2 y => ?_⟩
        obtain ⟨rfl, d, hd, rd⟩ := wk.yld n _ x H2 e2f hlt y
        have rd' := rep_down (imms_get him hd) rd
        rw [drop_cons hd] at o'
        show tO X i fb _ _ _
        refine ⟨H', a, xs', (fgt js ρ').set j (some d), ds', rfl, ha', by rw [List.getElem?_set_ne (Ne.symm hij)]; exact hia', (Envs.fgt js E').set rd', r', ?_⟩
        unfold loopO at o'
        match hb' : fb ((fgt js ρ').set j (some d)) ds' with
        | none => rw [hb'] at o'; exact o'
        | some (.rt r) => rw [hb'] at o'; exact o'
        | some (.nx ρ2 ds2) => rw [hb'] at o'; exact fun σ2 H3 xs3 e3 h3 hi3 E3 r3 => ⟨H3, xs3, ρ2, ds2, rfl, h3, e2.trans e3, hi3, E3, r3, OutW.mono e3 o'⟩
      · have hn' : n = us.length := by omega
        subst hn'
        rw [List.drop_length] at o'
        exact .inl ⟨wk.stop _ e2f, o' σ' H' xs' (.refl H') ha' hia' (Envs.fgt js E') r'⟩
    · rw [if_neg him] at o0
      exact o0.elim⟩
end FD
namespace FD
open PySem PySem.Spec PyProof.Rows L2 PySem.W
def tbInt : Dv → Bool
  | .bl _ => true
  | .int _ => true
  | _ => false
theorem kit_int (K : PySem.W.Frag) (d : Dv) : PySem.W.kitOne K (.type (tyD d)) (.type "int") = some (tbInt d) := by cases d <;> kernel_rfl
theorem bt_int : bootBuiltins (Str.ofString "int") = some (.type "int") := by kernel_rfl
def strD : List Dv → Option (Rs Dv)
  | [.int i] => if i.natAbs.log2 < 1920 then some (.ok (.str (toString i))) else none
  | _ => none
section
variable {X : Cx} {p pos : Pos} {e : Expr} {es : List Expr} {ga : FnA}
theorem fe_strI (hg : Gl X "str") (hm : X.mg "str" = none) (ha : FA X (e :: es) ga) (he : starEach (e :: es) X.env = (false, eval e X.env) :: starEach es X.env := by kernel_rfl) (hpl : (backTo pos (starEach es X.env)).any (·.1) = false := by kernel_rfl) : FE X (.Call (.Name "str" p) (e :: es) [] pos) (fB1 strD ga) :=
  fe_of (pe_callTy call_str_int hg hm (by decide +kernel) ha.h (by decide) (by decide) he hpl) fun σ H Q ρ E o => ⟨ρ, E, OutA.bind o fun ds vs H1 e1 rs o1 => by
    unfold strD at o1
    split at o1
    · rename_i i
      split at o1
      · rename_i hz
        obtain ⟨v, rfl, r⟩ := reps1 rs
        cases (show v = .int i from r)
        exact ⟨i, rfl, hz, o1 _ H1 (.refl H1) rfl⟩
      · exact o1.elim
    · exact o1.elim⟩
end
def leX : Dv → Dv → Option (Rs Dv)
  | .int i, .int j => some (.ok (.bl (decide (i ≤ j))))
  | .str x, .str y => some (.ok (.bl (!decide (y.cps.toList < x.cps.toList))))
  | _, _ => none
def rLeX : R2 := fun x y H Q => rI0 (fun i j => .bl (decide (i ≤ j))) x y H Q ∨ ∃ i j, x = .str i ∧ y = .str j ∧ Q (.bl (!decide (j.cps.toList < i.cps.toList))) H
section
variable {X : Cx}
theorem op_le_str : OpR X (compareOp .LtE) (fun x y H Q => ∃ i j, x = .str i ∧ y = .str j ∧ Q (.bl (!decide (j.cps.toList < i.cps.toList))) H) := by
  intro pins s σ H x y v u Q I rx ry h
  obtain ⟨i, j, rfl, rfl, q⟩ := h
  obtain ⟨t, rfl⟩ := rx
  obtain ⟨t', rfl⟩ := ry
  exact PySem.P.le_str ⟨.bl _, H, I, rfl, q⟩
theorem o_leX : OpR X (compareOp .LtE) rLeX := op_le.or op_le_str
theorem g_leX : GOp X rLeX leX := by
  intro dx dy x y H Q rx ry o
  cases dx <;> cases dy <;> try exact (show False from o).elim
  · rename_i i j
    exact .inl ⟨i, j, rx, ry, o _ H (.refl H) rfl⟩
  · rename_i i j
    exact .inr ⟨i, j, rx, ry, o _ H (.refl H) rfl⟩
end
structure XAllS (K : PySem.W.Frag) (S : List Nat) (cls : Nat → Addr) (CJ : Addr) : Prop where
  at_ : ∀ c ∈ S, nsIn K mainGlobals (xnm c) = some (some (.ref (cls c))) ∧ excIn K (cls c) bmV "ValueError.__new__" = true ∧ XI K (cls c) ∧ mroIn K (cls c) (.ref CJ) = some true ∧ mroIn K (cls c) (.ref (cls c)) = some true ∧ kitOne K (.ref (cls c)) (.type "ValueError") = some true ∧ ∀ d ∈ S, kitOne K (.ref (cls c)) (.ref (cls d)) = some (c == d)
  exJ : excIn K CJ bmV "ValueError.__new__" = true
section
variable {K : PySem.W.Frag} {S : List Nat} {cls : Nat → Addr} {CJ : Addr} (x : XAllS K S cls CJ)
include x
theorem XAllS.xc (c : Nat) (h : c ∈ S) : XC K c (cls c) := ⟨(x.at_ c h).1, (x.at_ c h).2.1⟩
theorem XAllS.same {c : Nat} {C : Addr} (h : c ∈ S) (q : nsIn K mainGlobals (xnm c) = some (some (.ref C))) : C = cls c := by
  have z := (x.at_ c h).1
  rw [q] at z
  cases z
  rfl
theorem XAllS.xtO (d : Nat) (hd : d ∈ S) : XT K (fun c => if S.contains c then some (c == d) else none) (.ref (cls d)) := fun c b hb C q => by
  dsimp only at hb
  split at hb
  · rename_i h
    have h' : c ∈ S := by simpa using h
    cases hb
    rw [x.same h' q]
    exact ⟨(x.at_ c h').2.2.1, (x.at_ c h').2.2.2.2.2.2 d hd⟩
  · cases hb
theorem XAllS.xtV : XT K (fun c => if S.contains c then some true else none) (.type "ValueError") := fun c b hb C q => by
  dsimp only at hb
  split at hb
  · rename_i h
    have h' : c ∈ S := by simpa using h
    cases hb
    rw [x.same h' q]
    exact ⟨(x.at_ c h').2.2.1, (x.at_ c h').2.2.2.2.2.1⟩
  · cases hb
end
section
variable {X : Cx} {ex hx : Expr} {f g : FnE} {J : Str} {CJ : Addr} {np rp rp2 hpos pos : Pos}
end
end FD
namespace ST
open PySem PySem.SetTable
def stp (m i : Nat) : Nat := (i * 5 + 1) % (m + 1)
def it (m : Nat) : Nat → Nat → Nat
  | 0, i => i
  | k + 1, i => it m k (stp m i)
def cycB (m : Nat) : Bool := (List.range (m + 1)).all fun i => (List.range (m + 1)).all fun j => (List.range (m + 1)).any fun k => it m k i == j
theorem cyc_of {m : Nat} (h : cycB m = true) {i j : Nat} (hi : i ≤ m) (hj : j ≤ m) : ∃ k, k ≤ m ∧ it m k i = j := by
  unfold cycB at h
  have h1 := List.all_eq_true.mp h i (List.mem_range.mpr (by omega))
  have h2 := List.all_eq_true.mp h1 j (List.mem_range.mpr (by omega))
  obtain ⟨k, hk, e⟩ := List.any_eq_true.mp h2
  exact ⟨k, by have := List.mem_range.mp hk; omega, by simpa using e⟩
def lp (m : Nat) : Nat → Nat × Nat → Nat × Nat
  | 0, x => x
  | r + 1, x => lp m r (leap m x.1 x.2)
theorem lp_add (m : Nat) : ∀ (a b : Nat) (x : Nat × Nat), lp m (a + b) x = lp m b (lp m a x)
  | 0, b, x => by rw [Nat.zero_add]; rfl
  | a + 1, b, x => by
    rw [Nat.succ_add]
    show lp m (a + b) (leap m x.1 x.2) = lp m b (lp m a (leap m x.1 x.2))
    exact lp_add m a b _
theorem lp_le (m : Nat) : ∀ (r : Nat) (x : Nat × Nat), x.1 ≤ m → (lp m r x).1 ≤ m
  | 0, x, h => h
  | r + 1, x, h => lp_le m r _ (by
    show (x.1 * 5 + 1 + x.2 / 32) % (m + 1) ≤ m
    exact Nat.le_of_lt_succ (Nat.mod_lt _ (Nat.succ_pos m)))
theorem lp_pt (m : Nat) : ∀ (r : Nat) (x : Nat × Nat), (lp m r x).2 = x.2 / 32 ^ r
  | 0, x => by simp [lp]
  | r + 1, x => by
    show (lp m r (leap m x.1 x.2)).2 = _
    rw [lp_pt m r]
    show x.2 / 32 / 32 ^ r = _
    rw [Nat.div_div_eq_div_mul, Nat.pow_succ, Nat.mul_comm]
theorem lp_zero (m : Nat) : ∀ (r : Nat) (i : Nat), (lp m r (i, 0)).1 = it m r i
  | 0, i => rfl
  | r + 1, i => by
    show (lp m r (leap m i 0)).1 = it m r (stp m i)
    have e : leap m i 0 = (stp m i, 0) := by unfold leap stp; simp
    rw [e]
    exact lp_zero m r _
theorem lp_hits {m : Nat} (c : cycB m = true) {i pt j : Nat} (hi : i ≤ m) (hp : pt < 2 ^ 64) (hj : j ≤ m) : ∃ r, r ≤ 13 + m ∧ (lp m r (i, pt)).1 = j := by
  have h0 : (lp m 13 (i, pt)).2 = 0 := by
    rw [lp_pt]
    exact Nat.div_eq_of_lt (by show pt < 32 ^ 13; have : (32 : Nat) ^ 13 = 2 ^ 65 := by decide
                               omega)
  obtain ⟨k, hk, e⟩ := cyc_of c (lp_le m 13 (i, pt) hi) hj
  refine ⟨13 + k, by omega, ?_⟩
  rw [lp_add]
  have e2 : lp m 13 (i, pt) = ((lp m 13 (i, pt)).1, 0) := by rw [← h0]
  rw [e2, lp_zero]
  exact e
def advN (t : SetTable) : Nat → Probe → Probe
  | 0, p => p
  | n + 1, p => advN t n (t.advance p)
theorem advN_add (t : SetTable) : ∀ (a b : Nat) (p : Probe), advN t (a + b) p = advN t b (advN t a p)
  | 0, b, p => by rw [Nat.zero_add]; rfl
  | a + 1, b, p => by
    rw [Nat.succ_add]
    exact advN_add t a b _
structure Vp (t : SetTable) (p : Probe) : Prop where
  i : p.i ≤ t.mask
  pt : p.perturb < 2 ^ 64
  more : p.more ≤ 9
  dm : p.dummy = none
theorem runEnd_le (m i : Nat) : runEnd m i - i ≤ 9 := by unfold runEnd; split <;> omega
def leapSt (t : SetTable) (p : Probe) : Probe := { p with j := (leap t.mask p.i p.perturb).1, more := runEnd t.mask (leap t.mask p.i p.perturb).1 - (leap t.mask p.i p.perturb).1, i := (leap t.mask p.i p.perturb).1, perturb := (leap t.mask p.i p.perturb).2 }
theorem adv_zero (t : SetTable) (p : Probe) (h : p.more = 0) : t.advance p = leapSt t p := by
  unfold SetTable.advance leapSt
  rw [if_neg (by omega)]
theorem adv_pos (t : SetTable) (p : Probe) (h : 0 < p.more) : t.advance p = { p with j := p.j + 1, more := p.more - 1 } := by
  unfold SetTable.advance
  rw [if_pos h]
theorem to_leap (t : SetTable) : ∀ (k : Nat) (p : Probe), p.more = k → advN t (k + 1) p = leapSt t p
  | 0, p, h => adv_zero t p h
  | k + 1, p, h => by
    show advN t (k + 1) (t.advance p) = _
    rw [adv_pos t p (by omega), to_leap t k _ (by show p.more - 1 = k; omega)]
    rfl
theorem leap_lt (m i pt : Nat) (h : pt < 2 ^ 64) : (leap m i pt).2 < 2 ^ 64 := Nat.lt_of_le_of_lt (Nat.div_le_self _ _) h
theorem Vp.leap {t : SetTable} {p : Probe} (v : Vp t p) : Vp t (leapSt t p) := ⟨by
    show (p.i * 5 + 1 + p.perturb / 32) % (t.mask + 1) ≤ t.mask
    exact Nat.le_of_lt_succ (Nat.mod_lt _ (Nat.succ_pos t.mask)), (show (SetTable.leap t.mask p.i p.perturb).2 < 2 ^ 64 from leap_lt _ _ _ v.pt), (show runEnd t.mask (SetTable.leap t.mask p.i p.perturb).1 - (SetTable.leap t.mask p.i p.perturb).1 ≤ 9 from runEnd_le _ _), v.dm⟩
theorem Vp.adv {t : SetTable} {p : Probe} (v : Vp t p) : Vp t (t.advance p) := by
  by_cases h : 0 < p.more
  · rw [adv_pos t p h]; exact ⟨v.i, v.pt, by show p.more - 1 ≤ 9; have := v.more; omega, v.dm⟩
  · rw [adv_zero t p (by omega)]; exact v.leap
theorem Vp.advN {t : SetTable} : ∀ (n : Nat) {p : Probe}, Vp t p → Vp t (advN t n p)
  | 0, p, v => v
  | n + 1, p, v => Vp.advN n v.adv
theorem to_leaps (t : SetTable) : ∀ (r : Nat) (p : Probe), Vp t p → ∃ n, n ≤ 10 * r ∧ (advN t n p).i = (lp t.mask r (p.i, p.perturb)).1 ∧ (r ≠ 0 → (advN t n p).j = (advN t n p).i)
  | 0, p, v => ⟨0, by omega, rfl, fun h => absurd rfl h⟩
  | r + 1, p, v => by
    obtain ⟨n, h1, h2, h3⟩ := to_leaps t r (leapSt t p) v.leap
    refine ⟨p.more + 1 + n, by have := v.more; omega, ?_, fun _ => ?_⟩
    · rw [advN_add, to_leap t p.more p rfl, h2]; rfl
    · rw [advN_add, to_leap t p.more p rfl]
      by_cases hr : r = 0
      · subst hr
        have hn : n = 0 := by omega
        subst hn
        rfl
      · exact h3 hr
structure Tb (t : SetTable) (n : Nat) : Prop where
  size : t.place.size = n
  dm : t.dummies = #[]
  cyc : cycB t.mask = true
  room : n ≤ t.mask
theorem has_nil (j : Nat) : has #[] j = false := by unfold has; simp
theorem slot_cases {t : SetTable} {n : Nat} (T : Tb t n) (j : Nat) : t.slot j = .empty ∨ ∃ i, t.slot j = .live i ∧ t.place[i]? = some j := by
  unfold SetTable.slot
  dsimp only
  split
  · rename_i h
    exact .inr ⟨_, rfl, by simpa using h⟩
  · rw [T.dm, has_nil]
    exact .inl rfl
theorem missing : ∀ (m : Nat) (l : List Nat), l.length ≤ m → ∃ j, j ≤ m ∧ j ∉ l
  | 0, l, h => ⟨0, Nat.le_refl _, by
    have : l = [] := List.length_eq_zero_iff.mp (by omega)
    simp [this]⟩
  | m + 1, l, h => by
    by_cases hm : (m + 1) ∈ l
    · obtain ⟨j, hj, hn⟩ := missing m (l.erase (m + 1)) (by rw [List.length_erase_of_mem hm]; omega)
      refine ⟨j, by omega, fun hl => hn ?_⟩
      exact (List.mem_erase_of_ne (by omega)).mpr hl
    · exact ⟨m + 1, Nat.le_refl _, hm⟩
theorem empty_ex {t : SetTable} {n : Nat} (T : Tb t n) : ∃ j, j ≤ t.mask ∧ t.slot j = .empty := by
  obtain ⟨j, hj, hn⟩ := missing t.mask t.place.toList (by simp [T.size, T.room])
  refine ⟨j, hj, ?_⟩
  rcases slot_cases T j with h | ⟨i, h, e⟩
  · exact h
  · exact absurd (Array.mem_toList_iff.mpr (Array.mem_of_getElem? e)) hn
theorem reach {t : SetTable} {n : Nat} (T : Tb t n) {p : Probe} (v : Vp t p) : ∃ N, N < 10 * turns t.mask ∧ t.slot (advN t N p).j = .empty := by
  obtain ⟨j, hj, he⟩ := empty_ex T
  obtain ⟨r, hr, e⟩ := lp_hits T.cyc (lp_le t.mask 1 (p.i, p.perturb) v.i) (by
    show (leap t.mask p.i p.perturb).2 < 2 ^ 64
    exact leap_lt _ _ _ v.pt) hj (pt := (lp t.mask 1 (p.i, p.perturb)).2)
  obtain ⟨N, h1, h2, h3⟩ := to_leaps t (1 + r) p v
  refine ⟨N, by unfold turns; omega, ?_⟩
  rw [h3 (by omega), h2, lp_add]
  rw [show lp t.mask 1 (p.i, p.perturb) = ((lp t.mask 1 (p.i, p.perturb)).1, (lp t.mask 1 (p.i, p.perturb)).2) from rfl, e]
  exact he
theorem first {P : Nat → Prop} [DecidablePred P] : ∀ (b : Nat), (∃ n, n < b ∧ P n) → ∃ n, n < b ∧ P n ∧ ∀ k, k < n → ¬ P k
  | 0, ⟨n, h, _⟩ => absurd h (Nat.not_lt_zero _)
  | b + 1, ⟨n, h, hp⟩ => by
    by_cases q : ∃ n, n < b ∧ P n
    · obtain ⟨n, h1, h2, h3⟩ := first b q
      exact ⟨n, by omega, h2, h3⟩
    · have hn : n = b := by
        have : ¬ n < b := fun z => q ⟨n, z, hp⟩
        omega
      subst hn
      exact ⟨n, by omega, hp, fun k hk z => q ⟨k, hk, z⟩⟩
end ST
namespace ST
open PySem PySem.SetTable
theorem getD_none {owner : Array (Option Nat)} {j : Nat} (h : (owner.getD j (some 0)).isNone = true) : j < owner.size ∧ owner.toList[j]? = some none := by
  rw [Array.getD_eq_getD_getElem?] at h
  cases q : owner[j]? with
  | none => rw [q] at h; simp at h
  | some x =>
    rw [q] at h
    have hx : x = none := by simpa using h
    subst hx
    refine ⟨(Array.getElem?_eq_some_iff.mp q).1, by rw [Array.getElem?_toList]; exact q⟩
end ST
namespace ST
open PySem PySem.SetTable
section
variable {prog : Program} {w : World} {A : Around} {E : Value → Shared → Prop} {s : Shared}
abbrev TK (prog : Program) (w : World) (h : Heap) (k : List Str) (a : Addr) : Prop := IsTupleKey (strKind prog w) h k a
abbrev hsh (prog : Program) (w : World) (k : List Str) : Int := tupleKeyHash (strKind prog w) k
def Ent (prog : Program) (w : World) (h : Heap) (ks : List (List Str)) (es : List (Int × Value)) : Prop := ∀ e ∈ es, ∃ k a, k ∈ ks ∧ e.2 = .ref a ∧ TK prog w h k a
end
end ST
namespace ST
open PySem PySem.SetTable
section
variable {prog : Program} {w : World} {A : Around} {E : Value → Shared → Prop} {s : Shared}
def SetT (prog : Program) (w : World) (h : Heap) (S : Addr) (ks : List (List Str)) (n : Nat) : Prop :=
  ∃ o es ep t, h.get? S = some o ∧ o.ExactSet ∧ o.data = .set es ep t ∧ es.size = n ∧ Tb t n ∧ ((t.mask = 7 ∧ n ≤ 4) ∨ (t.mask = 31 ∧ n ≤ 18)) ∧ Ent prog w h ks es.toList
theorem TK.keeps {h h' : Heap} {k : List Str} {a S : Addr} {o : Obj} {es ep t} (x : TK prog w h k a) (ho : h.get? S = some o) (hd : o.data = .set es ep t) (hs : Heap.SameBut S h h') : TK prog w h' k a := by
  obtain ⟨o', items, n, ho', hc, hd', hi⟩ := x
  have hne : a ≠ S := by
    rintro rfl
    obtain rfl : o' = o := Option.some.inj (ho'.symm.trans ho)
    rw [hd] at hd'; exact nomatch hd'
  exact ⟨o', items, n, (hs.2 a hne).trans ho', hc, hd', hi⟩
theorem Ent.keeps {h h' : Heap} {ks : List (List Str)} {l : List (Int × Value)} {S : Addr} {o : Obj} {es ep t} (x : Ent prog w h ks l) (ho : h.get? S = some o) (hd : o.data = .set es ep t) (hs : Heap.SameBut S h h') : Ent prog w h' ks l := fun e he => by
  obtain ⟨k, a, h1, h2, h3⟩ := x e he
  exact ⟨k, a, h1, h2, h3.keeps ho hd hs⟩
end
end ST
namespace ST
open PySem PySem.SetTable PyProof.Rows
section
variable {prog : Program} {w : World} {A : Around} {R : Result → Shared → Prop} {I : Addr} {fp wr : List Addr} {G : Array GenState → Array GenState → Prop} {n : Nat} {P : Nat → Value → Prop} {St : Nat → Shared → Prop}
theorem TK.moved {h h' : Heap} {k : List Str} {a : Addr} (x : TK prog w h k a) (hm : ∀ o, h.get? a = some o → h'.get? a = some o) : TK prog w h' k a := by
  obtain ⟨o', items, n, ho', hc, hd', hi⟩ := x
  exact ⟨o', items, n, hm _ ho', hc, hd', hi⟩
theorem SetT.moved {h h' : Heap} {S : Addr} {ks : List (List Str)} {n : Nat} (x : SetT prog w h S ks n) (hS : ∀ o, h.get? S = some o → h'.get? S = some o) (hm : ∀ k ∈ ks, ∀ a, TK prog w h k a → TK prog w h' k a) : SetT prog w h' S ks n := by
  obtain ⟨o, es, ep, t, ho, hex, hd, hsz, T, hmk, hE⟩ := x
  exact ⟨o, es, ep, t, hS _ ho, hex, hd, hsz, T, hmk, fun e he => let ⟨k, a, h1, h2, h3⟩ := hE e he; ⟨k, a, h1, h2, hm k h1 a h3⟩⟩
end
end ST
namespace ST
open PySem PySem.SetTable PyProof.Rows
section
variable {prog : Program} {w : World} {A : Around} {E : Value → Shared → Prop} {s : Shared}
end
end ST
namespace FD
open PySem PySem.Spec PyProof.Rows L2
section
variable {X : Cx} {pins : List (Addr × Obj)} {σ : L2.St} {H : Hp} {s : Shared}
end
section
variable {X : Cx} {p p2 pos pos2 : Pos} {e : Expr} {ga : FnA}
end
end FD
namespace FD
open PySem PySem.Spec PyProof.Rows L2
section
variable {X : Cx}
end
end FD
namespace FD
open PySem PySem.Spec PyProof.Rows L2
def frs {α : Type} (P : α → Bool) : Sem α → Bool
  | .pure a => P a
  | .fresh _ => true
  | .at _ k => frs P (k ())
  | .rule _ k => frs P (k ())
  | .point _ k => frs P (k ())
  | _ => false
structure FE1 (X : Cx) (e : Expr) (f : FnE) : Prop where
  h : ∀ (pins : List (Addr × Obj)) (s : Shared) (σ : L2.St) (H : Hp) (Q : VK), 1 ≤ s.toks → Inv X pins σ H s → tF X f σ H Q → wpAny (model X.prog X.w) X.A (eval e X.env) (EP X pins σ Q) X.xe s
structure FT1 (X : Cx) (e : Expr) (f : FnB) : Prop where
  h : ∀ (pins : List (Addr × Obj)) (s : Shared) (σ : L2.St) (H : Hp) (Q : Bool → Hp → Prop), 1 ≤ s.toks → Inv X pins σ H s → tT X f σ H Q → wpAny (model X.prog X.w) X.A (isTrue e X.env (eval e X.env)) (TP X pins σ Q) X.xe s
structure FW1 (X : Cx) (e : Expr) (f : FnB) : Prop where
  h : ∀ (whole : Sem Value) (pins : List (Addr × Obj)) (s : Shared) (σ : L2.St) (H : Hp) (Q : Bool → Hp → Prop), 1 ≤ s.toks → Inv X pins σ H s → tT X f σ H Q → wpAny (model X.prog X.w) X.A (isTrue e X.env whole) (TP X pins σ Q) X.xe s
structure FS1 (X : Cx) (st : Stmt) (f : FnS) : Prop where
  h : ∀ (pins : List (Addr × Obj)) (s : Shared) (σ : L2.St) (H : Hp) (D : Ends), 1 ≤ s.toks → Inv X pins σ H s → tS X f D σ H → wpAny (model X.prog X.w) X.A (exec st X.env) (SP X pins D) X.xe s
structure FSs1 (X : Cx) (st : List Stmt) (f : FnS) : Prop where
  h : ∀ (pins : List (Addr × Obj)) (s : Shared) (σ : L2.St) (H : Hp) (D : Ends), 1 ≤ s.toks → Inv X pins σ H s → tS X f D σ H → wpAny (model X.prog X.w) X.A (execs st X.env) (SP X pins D) X.xe s
structure FTg (X : Cx) (e : Expr) (f : FnB) : Prop where
  h : ∀ (pins : List (Addr × Obj)) (s : Shared) (σ : L2.St) (H : Hp) (Q : Bool → Hp → Prop), Inv X pins σ H s → tT X f σ H Q → wpAny (model X.prog X.w) X.A (isTrue e X.env (eval e X.env)) (fun b s' => (b = true ∨ 1 ≤ s'.toks) ∧ TP X pins σ Q b s') X.xe s
structure FWg (X : Cx) (e : Expr) (f : FnB) : Prop where
  h : ∀ (whole : Sem Value) (pins : List (Addr × Obj)) (s : Shared) (σ : L2.St) (H : Hp) (Q : Bool → Hp → Prop), Inv X pins σ H s → tT X f σ H Q → wpAny (model X.prog X.w) X.A (isTrue e X.env whole) (fun b s' => (b = true ∨ 1 ≤ s'.toks) ∧ TP X pins σ Q b s') X.xe s
def isNext : Flow → Bool
  | .next => true
  | _ => false
structure FSg (X : Cx) (st : Stmt) (f : FnS) : Prop where
  h : ∀ (pins : List (Addr × Obj)) (s : Shared) (σ : L2.St) (H : Hp) (D : Ends), Inv X pins σ H s → tS X f D σ H → wpAny (model X.prog X.w) X.A (exec st X.env) (fun fl s' => (isNext fl = false ∨ 1 ≤ s'.toks) ∧ SP X pins D fl s') X.xe s
section
variable {X : Cx} {a b o e : Expr} {fa fo : FnE} {ga gb : FnB} {f g : FnS} {rest : List Expr} {st : Stmt} {sts as bs : List Stmt} {pos apos cpos : Pos}
theorem FWg.ft (h : FWg X e ga) : FTg X e ga := ⟨h.h _⟩
end
end FD
namespace FD
open PySem PySem.Spec PyProof.Rows L2
section
variable {prog : Program} {w : World} {A : Around} {E : Value → Shared → Prop} {s : Shared}
theorem nextT_item {iv tv : Addr} {k : Nat} {vs : Array Value} {v : Value} {Q : Value → Shared → Prop} (gi : s.heap.IsTupleIter iv tv k) (gt : s.heap.IsTuple tv vs) (gv : vs[k]? = some v)
    (q : ∀ h', h'.IsTupleIter iv tv (k + 1) → Heap.SameBut iv s.heap h' → Q v { s with heap := h' }) : wpAny (model prog w) A (Builtin.SmallTypes.nextOf (.ref iv)) Q E s := by
  obtain ⟨ob, o1, o2, o3⟩ := id gi; obtain ⟨tb, t1, _, m, t2⟩ := gt
  unfold Builtin.SmallTypes.nextOf
  refine wpAny_bind (wpAny_callSpecial?_slot (name := Str.ofString "__next__") gi.typeIs F.slot_tuple_iterator_next (wpAny_call_entry F.slot_tuple_iterator_next gi.typeIs F.entry_tuple_iterator_next ?_ (F.args_tuple_iterator_next_1 _)))
  show wpAny _ _ (field (.ref iv) 0 >>= _) _ _ s; refine wpAny_bind (wpAny_field o1 o3 (x := .ref tv) rfl ?_)
  show wpAny _ _ (if (Value.ref tv == Value.none) = true then _ else _) _ _ s; rw [if_neg (show ¬ ((Value.ref tv == Value.none) = true) from Bool.false_ne_true)]
  show wpAny _ _ (field (.ref iv) 1 >>= _) _ _ s; refine wpAny_bind (wpAny_field o1 o3 (x := .int k 0) rfl ?_)
  show wpAny _ _ (seqItems? (.ref tv) >>= _) _ _ s; refine wpAny_bind (wpAny_seqItems t1 t2 ?_); simp only [Int.toNat_natCast, gv]
  refine wpAny_bind (wpAny_setField o1 o3 (by simp) (wpAny_pure ⟨v, rfl, wpAny_pure (q _ ⟨_, Heap.get?_update_self _ o1 (Obj.isFreed_of_fields (Obj.data_mapFields o3 _)), (Obj.cls_mapFields ..).trans o2, by rw [Obj.data_mapFields o3]; simp [rawInt]⟩ (Heap.SameBut.update ..))⟩))
theorem nextT_end {iv tv : Addr} {k : Nat} {vs : Array Value} {Q : Value → Shared → Prop} (hh : A.handled = none) (gi : s.heap.IsTupleIter iv tv k) (gt : s.heap.IsTuple tv vs) (gv : vs[k]? = none)
    (q : ∀ h' e, Heap.ExtBut iv s.heap h' → (∃ o, h'.get? e = some o ∧ o.cls = .type "StopIteration") → E (.ref e) { s with heap := h' }) : wpAny (model prog w) A (Builtin.SmallTypes.nextOf (.ref iv)) Q E s := by
  obtain ⟨ob, o1, o2, o3⟩ := id gi; obtain ⟨tb, t1, _, m, t2⟩ := gt
  unfold Builtin.SmallTypes.nextOf
  refine wpAny_bind (wpAny_callSpecial?_slot (name := Str.ofString "__next__") gi.typeIs F.slot_tuple_iterator_next (wpAny_call_entry F.slot_tuple_iterator_next gi.typeIs F.entry_tuple_iterator_next ?_ (F.args_tuple_iterator_next_1 _)))
  show wpAny _ _ (field (.ref iv) 0 >>= _) _ _ s; refine wpAny_bind (wpAny_field o1 o3 (x := .ref tv) rfl ?_)
  show wpAny _ _ (if (Value.ref tv == Value.none) = true then _ else _) _ _ s; rw [if_neg (show ¬ ((Value.ref tv == Value.none) = true) from Bool.false_ne_true)]
  show wpAny _ _ (field (.ref iv) 1 >>= _) _ _ s; refine wpAny_bind (wpAny_field o1 o3 (x := .int k 0) rfl ?_)
  show wpAny _ _ (seqItems? (.ref tv) >>= _) _ _ s; refine wpAny_bind (wpAny_seqItems t1 t2 ?_); simp only [Int.toNat_natCast, gv]
  refine wpAny_bind (wpAny_rule (wpAny_bind (wpAny_setField o1 o3 (by simp) ?_)))
  show wpAny _ _ (newExc (.type "StopIteration") [] >>= _) _ _ _; refine wpAny_bind ?_; simp only [newExc, newTuple]; refine wpAny_bind (wpAny_newObj_type ?_ (by size_fits))
  refine wpAny_bind (m := firstArgMember _ _) (wpAny_of_eq (a := Value.none) (by first | rfl | (simp only [firstArgMember]; rfl)) ?_); refine wpAny_newObj_type ?_ (by size_fits); simp only [raiseNew]
  refine wpAny_bind (wpAny_handled ?_); first | rw [show A.in1.handled = none from hh] | rw [hh]
  exact wpAny_bind (wpAny_pure (wpAny_throw (q _ _ (((Heap.SameBut.update ..).extBut.push _).push _) ⟨_, Heap.get?_push_size _ rfl, rfl⟩)))
theorem zipT_item {z TI TO i1 i2 l1 l2 : Addr} {k : Nat} {xs ys : Array Value} {x y a b : Value} {Q : Option Value → Shared → Prop} (D : ZipApart z TI TO i1 i2 l1 l2)
    (hz : IsZip s.heap z TI TO .none) (hTI : IsPair s.heap TI (.ref i1) (.ref i2)) (hTO : IsPair s.heap TO a b)
    (j1 : s.heap.IsTupleIter i1 l1 k) (j2 : s.heap.IsTupleIter i2 l2 k) (m1 : s.heap.IsTuple l1 xs) (m2 : s.heap.IsTuple l2 ys) (hx : xs[k]? = some x) (hy : ys[k]? = some y)
    (q : ∀ h', IsZip h' z TI TO (rawInt s.heap.objs.size) → IsPair h' TO x y → h'.IsTupleIter i1 l1 (k + 1) → h'.IsTupleIter i2 l2 (k + 1) → IsPair h' s.heap.objs.size x y → h'.objs.size = s.heap.objs.size + 1 →
      (∀ c o, c ≠ z → c ≠ TO → c ≠ i1 → c ≠ i2 → s.heap.get? c = some o → h'.get? c = some o) → Q (some (.ref s.heap.objs.size)) { s with heap := h' }) :
    wpAny (model prog w) A (pyNext (.ref z)) Q E s := by
  have ty : s.TypeIs (.ref z) "zip" := ⟨_, hz, rfl⟩
  unfold pyNext; refine wpAny_bind (wpAny_attempt (wpAny_callSpecial?_slot (name := Str.ofString "__next__") ty F.slot_zip_next (wpAny_call_entry F.slot_zip_next ty F.entry_zip_next ?_ (F.args_zip_next_1 _))))
  show wpAny _ _ (field (.ref z) 2 >>= _) _ _ s; refine wpAny_bind (wpAny_field hz rfl (x := .bool false) rfl ?_); show wpAny _ _ (field (.ref z) 3 >>= _) _ _ s
  refine wpAny_bind (wpAny_field hz rfl (x := .ref TI) rfl ?_); refine wpAny_bind (wpAny_seqItems hTI rfl ?_); show wpAny _ _ (Builtin.SmallTypes.ownedTupleIsFree (.ref z) >>= _) _ _ s
  refine wpAny_bind ?_; unfold Builtin.SmallTypes.ownedTupleIsFree; refine wpAny_bind (wpAny_field hz rfl (x := .none) rfl (wpAny_pure ?_)); simp only [if_true]; refine wpAny_bind (wpAny_rule ?_)
  refine wpAny_bind (wpAny_field hz rfl (x := .ref TO) rfl ?_); refine wpAny_bind (wpAny_setField_rec hz (by simp) fun hA zA sA => ?_)
  have zA' : IsZip hA z TI TO .ellipsis := zA
  refine wpAny_bind ?_; simp only [List.zipIdx_cons, List.zipIdx_nil, List.forIn_cons, List.forIn_nil]; refine wpAny_bind (wpAny_bind (wpAny_onRaise ?_))
  show wpAny _ _ (Builtin.SmallTypes.nextOf (.ref i1) >>= _) _ _ _; refine wpAny_bind (nextT_item (j1.extBut sA.extBut D.i1z) (m1.extBut sA.extBut D.l1z) hx fun hB jB sB => wpAny_pure ?_)
  have tB : IsPair hB TO a b := sB.extBut _ _ D.TOi1 (sA.extBut _ _ D.TOz hTO)
  refine wpAny_bind (wpAny_seqItems tB rfl ?_); refine wpAny_bind (wpAny_updateSeq_pair tB fun hC tC sC => ?_)
  have tC' : IsPair hC TO x b := tC
  refine wpAny_bind (wpAny_letGo (wpAny_pure ?_)); refine wpAny_bind (wpAny_bind (wpAny_onRaise ?_)); show wpAny _ _ (Builtin.SmallTypes.nextOf (.ref i2) >>= _) _ _ _
  refine wpAny_bind (nextT_item (((j2.extBut sA.extBut D.i2z).extBut sB.extBut D.i12.symm).extBut sC.extBut D.TOi2.symm) (((m2.extBut sA.extBut D.l2z).extBut sB.extBut D.l2i1).extBut sC.extBut D.l2TO) hy fun hD jD sD => wpAny_pure ?_)
  have tD : IsPair hD TO x b := sD.extBut _ _ D.TOi2 tC'
  refine wpAny_bind (wpAny_seqItems tD rfl ?_); refine wpAny_bind (wpAny_updateSeq_pair tD fun hF tF sF => ?_)
  have tF' : IsPair hF TO x y := tF
  refine wpAny_bind (wpAny_letGo (wpAny_pure (wpAny_pure ?_))); refine wpAny_bind (wpAny_seqItems tF' rfl ?_); refine wpAny_bind (wpAny_newTuple ?_)
  have n5 : hF.objs.size = s.heap.objs.size := by rw [sF.1, sD.1, sC.1, sB.1, sA.1]
  have z5 : IsZip hF z TI TO .ellipsis := sF.extBut _ _ D.TOz.symm (sD.extBut _ _ D.i2z.symm (sC.extBut _ _ D.TOz.symm (sB.extBut _ _ D.i1z.symm zA')))
  have k5 : ∀ c o, c ≠ z → c ≠ TO → c ≠ i1 → c ≠ i2 → s.heap.get? c = some o → hF.get? c = some o := fun c o c1 c2 c3 c4 g => sF.extBut _ _ c2 (sD.extBut _ _ c4 (sC.extBut _ _ c2 (sB.extBut _ _ c3 (sA.extBut _ _ c1 g))))
  have p1 : hF.IsTupleIter i1 l1 (k + 1) := ((jB.extBut sC.extBut D.TOi1.symm).extBut sD.extBut D.i12).extBut sF.extBut D.TOi1.symm
  have p2 : hF.IsTupleIter i2 l2 (k + 1) := jD.extBut sF.extBut D.TOi2.symm
  have nz : z < hF.objs.size := Heap.lt_size z5
  show wpAny _ _ (Builtin.SmallTypes.ownedTupleHandOut (.ref z) (.ref hF.objs.size) >>= _) _ _ _; refine wpAny_bind ?_; unfold Builtin.SmallTypes.ownedTupleHandOut
  have z6 : IsZip (hF.push { cls := .type "tuple", data := .seq #[x, y] }) z TI TO .ellipsis := Heap.get?_push_of_some _ z5
  refine wpAny_bind (wpAny_setField_rec z6 (by simp) fun hG zG sG => ?_)
  have zG' : IsZip hG z TI TO (rawInt hF.objs.size) := zG
  refine wpAny_setField_rec zG' (by simp) fun hH zH sH => ?_
  have zH' : IsZip hH z TI TO (rawInt hF.objs.size) := zH
  have up : ∀ c o, c ≠ z → hF.get? c = some o → hH.get? c = some o := fun c o c1 g => sH.extBut _ _ c1 (sG.extBut _ _ c1 (Heap.get?_push_of_some _ g))
  have pr : IsPair hH hF.objs.size x y := sH.extBut _ _ (Nat.ne_of_gt nz) (sG.extBut _ _ (Nat.ne_of_gt nz) (Heap.get?_push_size _ rfl))
  have n8 : hH.objs.size = hF.objs.size + 1 := by rw [sH.1, sG.1, Heap.size_push]
  rw [n5] at zH' pr n8
  refine wpAny_pure ⟨_, rfl, wpAny_pure ?_⟩
  show Q (some (.ref hF.objs.size)) _; rw [n5]
  exact q hH zH' (up _ _ D.TOz tF') (p1.at fun o g => up _ o D.i1z g) (p2.at fun o g => up _ o D.i2z g) pr n8 fun c o c1 c2 c3 c4 g => up c o c1 (k5 c o c1 c2 c3 c4 g)
theorem zipT_end {z TI TO i1 i2 l1 l2 : Addr} {k : Nat} {xs : Array Value} {a b : Value} {Q : Option Value → Shared → Prop} (hh : A.handled = none) (D : ZipApart z TI TO i1 i2 l1 l2)
    (hz : IsZip s.heap z TI TO .none) (hTI : IsPair s.heap TI (.ref i1) (.ref i2)) (hTO : IsPair s.heap TO a b)
    (j1 : s.heap.IsTupleIter i1 l1 k) (m1 : s.heap.IsTuple l1 xs) (hx : xs[k]? = none)
    (q : ∀ h', (∀ c o, c ≠ z → c ≠ TO → c ≠ i1 → c ≠ i2 → s.heap.get? c = some o → h'.get? c = some o) → Q none { s with heap := h' }) : wpAny (model prog w) A (pyNext (.ref z)) Q E s := by
  have ty : s.TypeIs (.ref z) "zip" := ⟨_, hz, rfl⟩
  unfold pyNext; refine wpAny_bind (wpAny_attempt (wpAny_callSpecial?_slot (name := Str.ofString "__next__") ty F.slot_zip_next (wpAny_call_entry F.slot_zip_next ty F.entry_zip_next ?_ (F.args_zip_next_1 _))))
  show wpAny _ _ (field (.ref z) 2 >>= _) _ _ s; refine wpAny_bind (wpAny_field hz rfl (x := .bool false) rfl ?_); show wpAny _ _ (field (.ref z) 3 >>= _) _ _ s
  refine wpAny_bind (wpAny_field hz rfl (x := .ref TI) rfl ?_); refine wpAny_bind (wpAny_seqItems hTI rfl ?_); show wpAny _ _ (Builtin.SmallTypes.ownedTupleIsFree (.ref z) >>= _) _ _ s
  refine wpAny_bind ?_; unfold Builtin.SmallTypes.ownedTupleIsFree; refine wpAny_bind (wpAny_field hz rfl (x := .none) rfl (wpAny_pure ?_)); simp only [if_true]; refine wpAny_bind (wpAny_rule ?_)
  refine wpAny_bind (wpAny_field hz rfl (x := .ref TO) rfl ?_); refine wpAny_bind (wpAny_setField_rec hz (by simp) fun hA zA sA => ?_)
  have zA' : IsZip hA z TI TO .ellipsis := zA
  refine wpAny_bind ?_; simp only [List.zipIdx_cons, List.zipIdx_nil, List.forIn_cons, List.forIn_nil]; refine wpAny_bind (wpAny_bind (wpAny_onRaise ?_))
  show wpAny _ _ (Builtin.SmallTypes.nextOf (.ref i1) >>= _) _ _ _
  refine wpAny_bind (nextT_end hh (j1.extBut sA.extBut D.i1z) (m1.extBut sA.extBut D.l1z) hx fun hB e sB he => ?_)
  obtain ⟨oe, g1, g2⟩ := he
  have zB : IsZip hB z TI TO .ellipsis := sB _ _ D.i1z.symm zA'
  have ne : e ≠ z := fun g => by subst g; rw [zB] at g1; cases g1; simp at g2
  refine wpAny_setField_rec zB (by simp) fun hC _ sC => ?_
  refine wpAny_bind (wpAny_isInstance (T := "StopIteration") (b := true) ⟨oe, sC.extBut _ _ ne g1, g2⟩ isSubtype_stop (wpAny_pure (q hC fun c o c1 _ c3 _ g => sC.extBut _ _ c1 (sB _ _ c3 (sA.extBut _ _ c1 g)))))
end
abbrev zq1 (h : Heap) (l1 : Addr) : Heap := h.push { cls := .type "tuple_iterator", data := .fields #[.ref l1, .int 0 0] }
abbrev zq2 (h : Heap) (l1 l2 : Addr) : Heap := (zq1 h l1).push { cls := .type "tuple_iterator", data := .fields #[.ref l2, .int 0 0] }
abbrev zq3 (h : Heap) (l1 l2 : Addr) : Heap := (zq2 h l1 l2).push { cls := .type "tuple", data := .seq #[.ref h.objs.size, .ref (zq1 h l1).objs.size] }
abbrev zq4 (h : Heap) (l1 l2 : Addr) : Heap := (zq3 h l1 l2).push { cls := .type "tuple", data := .seq #[.none, .none] }
abbrev zq5 (h : Heap) (l1 l2 : Addr) : Heap := (zq4 h l1 l2).push { cls := .type "zip", data := .fields #[.none, .bool false, .bool false, .ref (zq2 h l1 l2).objs.size, .ref (zq3 h l1 l2).objs.size] }
theorem zipT_new (l1 l2 : Addr) (xs ys : Array Value) :
    Meets (Builtin.«zip.__new__» ⟨[.type "zip", .ref l1, .ref l2], []⟩) (fun _ R s => s.heap.IsTuple l1 xs ∧ s.heap.IsTuple l2 ys ∧ R (.ok (.ret (.ref (zq4 s.heap l1 l2).objs.size))) { s with heap := zq5 s.heap l1 l2 }) :=
  .of_wp fun prog w A R s h => by
    obtain ⟨hp, g, d, tk, os⟩ := s; obtain ⟨m1, m2, h⟩ := h
    have hsub := sub_zip
    have t1 : Heap.IsTuple (Shared.heap ⟨hp, g, d, tk, os⟩) l1 xs := m1
    have t2 : Heap.IsTuple (Shared.heap ⟨hp.push { cls := .type "tuple_iterator", data := .fields #[.ref l1, .int 0 0] }, g, d, tk, os⟩) l2 ys := Heap.IsTuple.push m2 _
    wp_walk using wpAny_pyIter_tuple t1, wpAny_pyIter_tuple t2
    exact ⟨_, rfl, h⟩
section
variable {prog : Program} {w : World} {A : Around} {E : Value → Shared → Prop} {s : Shared}
theorem call_zipT {l1 l2 : Addr} {xs ys : Array Value} {Q : Value → Shared → Prop} (m1 : s.heap.IsTuple l1 xs) (m2 : s.heap.IsTuple l2 ys)
    (q : ∀ h', IsZip h' (s.heap.objs.size + 4) (s.heap.objs.size + 2) (s.heap.objs.size + 3) .none → IsPair h' (s.heap.objs.size + 2) (.ref s.heap.objs.size) (.ref (s.heap.objs.size + 1)) →
      IsPair h' (s.heap.objs.size + 3) .none .none → h'.IsTupleIter s.heap.objs.size l1 0 → h'.IsTupleIter (s.heap.objs.size + 1) l2 0 → h'.objs.size = s.heap.objs.size + 5 →
      (∀ c o, s.heap.get? c = some o → h'.get? c = some o) → Q (.ref (s.heap.objs.size + 4)) { s with heap := h' }) :
    wpAny (model prog w) A (call (.type "zip") [.ref l1, .ref l2]) Q E s := by
  refine callType_new F.called_zip (by decide) (F.typeCall_zip_2 _ _) (F.newCall_zip_2 _ _) (fun obj => F.args_object_init_3 obj _ _) F.entry_zip_new (zipT_new l1 l2 xs ys) ⟨m1, m2, ?_⟩
  have n1 : (zq1 s.heap l1).objs.size = s.heap.objs.size + 1 := Heap.size_push ..
  have n2 : (zq2 s.heap l1 l2).objs.size = s.heap.objs.size + 2 := by rw [Heap.size_push, n1]
  have n3 : (zq3 s.heap l1 l2).objs.size = s.heap.objs.size + 3 := by rw [Heap.size_push, n2]
  have n4 : (zq4 s.heap l1 l2).objs.size = s.heap.objs.size + 4 := by rw [Heap.size_push, n3]
  have n5 : (zq5 s.heap l1 l2).objs.size = s.heap.objs.size + 5 := by rw [Heap.size_push, n4]
  have P := @Heap.get?_push_of_some
  have g5 : (zq5 s.heap l1 l2).get? (zq4 s.heap l1 l2).objs.size = some _ := Heap.get?_push_size _ rfl
  have g4 : (zq5 s.heap l1 l2).get? (zq3 s.heap l1 l2).objs.size = some _ := Heap.get?_push_of_some _ (Heap.get?_push_size _ rfl)
  have g3 : (zq5 s.heap l1 l2).get? (zq2 s.heap l1 l2).objs.size = some _ := Heap.get?_push_of_some _ (Heap.get?_push_of_some _ (Heap.get?_push_size _ rfl))
  have g2 : (zq5 s.heap l1 l2).get? (zq1 s.heap l1).objs.size = some _ := Heap.get?_push_of_some _ (Heap.get?_push_of_some _ (Heap.get?_push_of_some _ (Heap.get?_push_size _ rfl)))
  have g1 : (zq5 s.heap l1 l2).get? s.heap.objs.size = some _ := Heap.get?_push_of_some _ (Heap.get?_push_of_some _ (Heap.get?_push_of_some _ (Heap.get?_push_of_some _ (Heap.get?_push_size _ rfl))))
  show _ ∧ _
  rw [n2, n3, n4] at g5; rw [n1, n2] at g3; rw [n3] at g4; rw [n1] at g2; rw [n4]
  exact ⟨⟨_, g5, rfl⟩, q _ g5 g3 g4 ⟨_, g1, rfl, rfl⟩ ⟨_, g2, rfl, rfl⟩ n5 fun c o g => Heap.get?_push_of_some _ (Heap.get?_push_of_some _ (Heap.get?_push_of_some _ (Heap.get?_push_of_some _ (Heap.get?_push_of_some _ g))))⟩
end
end FD
namespace FD
open PySem PySem.Spec PyProof.Rows L2
def Itz (a b : Addr) : It :=
  ⟨fun i H => ∃ xs ys x y, H a = some (.tup xs) ∧ H b = some (.tup ys) ∧ xs[i]? = some x ∧ ys[i]? = some y,
   fun i H v H' => ∃ p x y, v = .ref p ∧ H p = none ∧ H' = upd H p (.tup [x, y]) ∧ (∀ xs, H a = some (.tup xs) → xs[i]? = some x) ∧ (∀ ys, H b = some (.tup ys) → ys[i]? = some y),
   fun i H => ∃ xs ys, H a = some (.tup xs) ∧ H b = some (.tup ys) ∧ xs.length ≤ i⟩
structure ZSt (z TI TO i1 i2 a b : Addr) (i : Nat) (h : Heap) : Prop where
  z : IsZip h z TI TO .none
  ti : IsPair h TI (.ref i1) (.ref i2)
  to : ∃ p q, IsPair h TO p q
  j1 : h.IsTupleIter i1 a i
  j2 : h.IsTupleIter i2 b i
structure ZNe (z TI TO i1 i2 : Addr) : Prop where
  n1 : TI ≠ z
  n2 : TO ≠ z
  n3 : i1 ≠ z
  n4 : i2 ≠ z
  n5 : TI ≠ TO
  n6 : TI ≠ i1
  n7 : TI ≠ i2
  n8 : TO ≠ i1
  n9 : TO ≠ i2
  n10 : i1 ≠ i2
theorem five {z TI TO i1 i2 c : Addr} (h : c ∈ [z, TI, TO, i1, i2]) : c = z ∨ c = TI ∨ c = TO ∨ c = i1 ∨ c = i2 := by simpa using h
theorem turn_zip {P : Program} {w : World} {K : PySem.W.Frag} {es : List Expr} {k : Nat} {pos : Pos} (a b z TI TO i1 i2 : Addr) (N : ZNe z TI TO i1 i2) : Turn P w K (.Tuple es k pos) (Itz a b) [z, TI, TO, i1, i2] z (fun i h => ZSt z TI TO i1 i2 a b i h) where
  mem := by simp
  obj := fun i h st c hc => by
    obtain ⟨p, q, g3⟩ := st.to
    rcases five hc with rfl | rfl | rfl | rfl | rfl
    · exact ⟨_, st.z, fun v g => by cases g⟩
    · exact ⟨_, st.ti, fun v g => by cases g⟩
    · exact ⟨_, g3, fun v g => by cases g⟩
    · obtain ⟨o, e, _, d⟩ := st.j1
      exact ⟨o, e, fun v g => by rw [d] at g; cases g⟩
    · obtain ⟨o, e, _, d⟩ := st.j2
      exact ⟨o, e, fun v g => by rw [d] at g; cases g⟩
  keep := fun i h h' st kk => by
    obtain ⟨p, q, g3⟩ := st.to
    exact ⟨kk z (by simp) _ st.z, kk TI (by simp) _ st.ti, ⟨p, q, kk TO (by simp) _ g3⟩, st.j1.at fun o e => kk i1 (by simp) o e, st.j2.at fun o e => kk i2 (by simp) o e⟩
  item := by
    intro X hP hw hK hc i pins s σ H E I hf st hg
    subst hP hw hK
    obtain ⟨xs, ys, x, y, ha, hb, hx, hy⟩ := hg
    obtain ⟨its, rv, p, _⟩ := I.tuple (SqT.of ha)
    obtain ⟨jts, sv, p', _⟩ := I.tuple (SqT.of hb)
    obtain ⟨u, hu, ru⟩ := rv.get hx
    obtain ⟨v, hv, rw'⟩ := sv.get hy
    obtain ⟨q1, q2, hTO⟩ := st.to
    have F : ∀ c ∈ [z, TI, TO, i1, i2], FpOk X pins H c := hf
    have fr : ∀ c ∈ [z, TI, TO, i1, i2], H c = none := fun c m => (hf c m).1
    have an : ∀ c ∈ [z, TI, TO, i1, i2], a ≠ c := fun c m g => by rw [g, fr c m] at ha; cases ha
    have bn : ∀ c ∈ [z, TI, TO, i1, i2], b ≠ c := fun c m g => by rw [g, fr c m] at hb; cases hb
    have D : ZipApart z TI TO i1 i2 a b := ⟨N.n1, N.n2, N.n3, N.n4, N.n5, N.n6, N.n7, N.n8, N.n9, N.n10, an z (by simp), an TO (by simp), an i1 (by simp), an i2 (by simp), bn z (by simp), bn TO (by simp), bn i1 (by simp), bn i2 (by simp)⟩
    refine zipT_item D st.z st.ti hTO st.j1 st.j2 (show s.heap.IsTuple a its.toArray from p) (show s.heap.IsTuple b jts.toArray from p') (x := u) (y := v) (by simpa using hu) (by simpa using hv) fun h' a1 a2 a3 a4 a5 a6 kk => ?_
    refine ⟨_, rfl, wpAny_letOwnedTupleGo_zip a1 fun h2 z2 sb2 => ?_⟩
    have hp : H s.heap.objs.size = none := I.hok.fresh (Nat.le_refl _)
    have zlt : z < s.heap.objs.size := Heap.lt_size st.z
    have k2 : ∀ c o, c ∉ [z, TO, i1, i2] → s.heap.get? c = some o → h2.get? c = some o := fun c o hc' q => sb2.extBut c o (fun g => hc' (by simp [g])) (kk c o (fun g => hc' (by simp [g])) (fun g => hc' (by simp [g])) (fun g => hc' (by simp [g])) (fun g => hc' (by simp [g])) q)
    have tp2 : h2.get? s.heap.objs.size = some { cls := .type "tuple", data := .seq #[u, v] } := sb2.extBut _ _ (Nat.ne_of_gt zlt) a5
    have sub : ∀ c, c ∈ [z, TO, i1, i2] → c ∈ [z, TI, TO, i1, i2] := fun c m => by
      have m' : c = z ∨ c = TO ∨ c = i1 ∨ c = i2 := by simpa using m
      rcases m' with rfl | rfl | rfl | rfl <;> simp
    have I1 : Inv X pins σ (upd H s.heap.objs.size (.tup [x, y])) { s with heap := h2 } := by
      have nt : ∀ c o, H c = some o → c ∉ [z, TO, i1, i2] := fun c o q m => by rw [fr c (sub c m)] at q; cases q
      refine I.step (g' := s.gens) (d' := s.drawn) (t' := s.toks) (ch := [z, TO, i1, i2]) (fun c m => ?_) (fun c o _ _ hcb q _ => k2 c o hcb q) (fun c o _ _ hcb q _ => ⟨o.slots, k2 c o hcb q⟩) (fun c o hcb q n => ?_) (fun c o hcb q => ⟨o, k2 c o hcb q⟩)
        (fun c zs q => by rw [upd_ne (ne_of_none q hp)]; exact q) (fun c o zs q => by rw [upd_ne (ne_of_none q hp)]; exact q) (fun c ps q => ⟨#[], by rw [upd_ne (ne_of_none q hp), q]; simp⟩) (fun m hm => ?_) (fun c o2 q => ?_) I.bare
      · obtain ⟨f0, f1, f2, f3, f4, f5⟩ := hf c (sub c m)
        exact ⟨f3, f1, f4, f5⟩
      · rw [upd_ne (Nat.ne_of_lt (Heap.lt_size q))]; exact n
      · obtain ⟨o, es', ep, ho, r⟩ := hm
        exact ⟨o, es', ep, k2 _ o (fun m => (hf _ (sub _ m)).2.1 rfl) ho, r⟩
      · by_cases hcs : c = s.heap.objs.size
        · subst hcs
          rw [upd_same] at q
          cases q
          exact ⟨by show 2 ≤ sizeLine; decide, [u, v], .cons ru (.cons rw' .nil), ⟨_, tp2, rfl, _, rfl⟩⟩
        · rw [upd_ne hcs] at q
          refine (I.hok c o2 q).stay (fun e v' hcv qq => k2 e v' ?_ qq) (fun e qq => by rw [upd_ne (ne_of_none qq hp)]; exact qq) fun e zs qq => by rw [upd_ne (ne_of_none qq hp)]; exact qq
          rcases hcv with rfl | hcv
          · exact nt _ _ q
          · exact nt _ _ hcv
    refine ⟨.ref s.heap.objs.size, _, I1, rfl, ⟨_, x, y, rfl, hp, rfl, fun zs hz' => ?_, fun zs hz' => ?_⟩, ⟨z2, ?_, ⟨_, _, sb2.extBut _ _ N.n2 a2⟩, a3.at fun o q => sb2.extBut _ _ N.n3 q, a4.at fun o q => sb2.extBut _ _ N.n4 q⟩, fun c m => ?_⟩
    · rw [ha] at hz'; cases hz'; exact hx
    · rw [hb] at hz'; cases hz'; exact hy
    · exact sb2.extBut _ _ N.n1 (kk _ _ N.n1 N.n5 N.n6 N.n7 st.ti)
    · have lt : c < s.heap.objs.size := by
        rcases five m with rfl | rfl | rfl | rfl | rfl
        · exact zlt
        · exact Heap.lt_size st.ti
        · exact Heap.lt_size hTO
        · obtain ⟨_, e, _⟩ := st.j1; exact Heap.lt_size e
        · obtain ⟨_, e, _⟩ := st.j2; exact Heap.lt_size e
      rw [upd_ne (Nat.ne_of_lt lt)]; exact fr c m
  done := by
    intro X hP hw hK hc i pins s σ H E I hf st hg
    subst hP hw hK
    obtain ⟨xs, ys, ha, hb, hl⟩ := hg
    obtain ⟨its, rv, p, _⟩ := I.tuple (SqT.of ha)
    obtain ⟨q1, q2, hTO⟩ := st.to
    have fr : ∀ c ∈ [z, TI, TO, i1, i2], H c = none := fun c m => (hf c m).1
    have an : ∀ c ∈ [z, TI, TO, i1, i2], a ≠ c := fun c m g => by rw [g, fr c m] at ha; cases ha
    have bn : ∀ c ∈ [z, TI, TO, i1, i2], b ≠ c := fun c m g => by rw [g, fr c m] at hb; cases hb
    have D : ZipApart z TI TO i1 i2 a b := ⟨N.n1, N.n2, N.n3, N.n4, N.n5, N.n6, N.n7, N.n8, N.n9, N.n10, an z (by simp), an TO (by simp), an i1 (by simp), an i2 (by simp), bn z (by simp), bn TO (by simp), bn i1 (by simp), bn i2 (by simp)⟩
    have hlen := rv.length
    refine zipT_end (I.ok.hd hc) D st.z st.ti hTO st.j1 (show s.heap.IsTuple a its.toArray from p) (by simp; omega) fun h' kk => ⟨rfl, ?_⟩
    have k2 : ∀ c o, c ∉ [z, TO, i1, i2] → s.heap.get? c = some o → h'.get? c = some o := fun c o hc' q => kk c o (fun g => hc' (by simp [g])) (fun g => hc' (by simp [g])) (fun g => hc' (by simp [g])) (fun g => hc' (by simp [g])) q
    have sub : ∀ c, c ∈ [z, TO, i1, i2] → c ∈ [z, TI, TO, i1, i2] := fun c m => by
      have m' : c = z ∨ c = TO ∨ c = i1 ∨ c = i2 := by simpa using m
      rcases m' with rfl | rfl | rfl | rfl <;> simp
    have nt : ∀ c o, H c = some o → c ∉ [z, TO, i1, i2] := fun c o q m => by rw [fr c (sub c m)] at q; cases q
    refine I.step (g' := s.gens) (d' := s.drawn) (t' := s.toks) (ch := [z, TO, i1, i2]) (fun c m => ?_) (fun c o _ _ hcb q _ => k2 c o hcb q) (fun c o _ _ hcb q _ => ⟨o.slots, k2 c o hcb q⟩) (fun c o hcb q n => n) (fun c o hcb q => ⟨o, k2 c o hcb q⟩)
      (fun c zs q => q) (fun c o zs q => q) (fun c ps q => ⟨#[], by rw [q]; simp⟩) (fun m hm => ?_) (fun c o2 q => ?_) I.bare
    · obtain ⟨f0, f1, f2, f3, f4, f5⟩ := hf c (sub c m)
      exact ⟨f3, f1, f4, f5⟩
    · obtain ⟨o, es', ep, ho, r⟩ := hm
      exact ⟨o, es', ep, k2 _ o (fun m => (hf _ (sub _ m)).2.1 rfl) ho, r⟩
    · refine (I.hok c o2 q).stay (fun e v' hcv qq => k2 e v' ?_ qq) (fun e qq => qq) fun e zs qq => qq
      rcases hcv with rfl | hcv
      · exact nt _ _ q
      · exact nt _ _ hcv
  self := fun _ _ _ _ _ st h => wpAny_pyIter_zip st.z h
def zipL : List Dv → List Dv → List Dv
  | x :: xs, y :: ys => .tup [x, y] :: zipL xs ys
  | _, _ => []
theorem zipL_length : ∀ (xs ys : List Dv), xs.length = ys.length → (zipL xs ys).length = xs.length
  | [], [], _ => rfl
  | x :: xs, y :: ys, h => by
    show (zipL xs ys).length + 1 = xs.length + 1
    rw [zipL_length xs ys (by simpa using h)]
  | [], _ :: _, h => by simp at h
  | _ :: _, [], h => by simp at h
theorem zipL_get : ∀ (xs ys : List Dv) (i : Nat) (x y : Dv), xs[i]? = some x → ys[i]? = some y → (zipL xs ys)[i]? = some (.tup [x, y])
  | x :: xs, y :: ys, 0, x', y', h, h' => by simp at h h'; subst h h'; rfl
  | x :: xs, y :: ys, i + 1, x', y', h, h' => zipL_get xs ys i x' y' (by simpa using h) (by simpa using h')
  | [], _, _, _, _, h, _ => by simp at h
  | _ :: _, [], _, _, _, _, h' => by simp at h'
theorem wk_zip {K : PySem.W.Frag} {H : Hp} {a b : Addr} {vs us : List V} {xs ys : List Dv} (ha : H a = some (.tup vs)) (hb : H b = some (.tup us)) (r : Reps K H xs vs) (r' : Reps K H ys us) (hl : xs.length = ys.length) : WkG K (Itz a b) (zipL xs ys) H where
  go := fun i H' e hi => by
    rw [zipL_length xs ys hl] at hi
    have h1 : i < vs.length := by rw [r.length]; exact hi
    have h2 : i < us.length := by rw [r'.length, ← hl]; exact hi
    exact ⟨vs, us, vs[i], us[i], e _ _ ha, e _ _ hb, by simp [h1], by simp [h2]⟩
  stop := fun H' e => ⟨vs, us, e _ _ ha, e _ _ hb, by rw [r.length, zipL_length xs ys hl]; exact Nat.le_refl _⟩
  yld := fun i H' v H2 e hi y => by
    obtain ⟨p, x, y, rfl, hp, rfl, y1, y2⟩ := y
    obtain ⟨d, h1, h2⟩ := Reps.get (Reps.mono e _ _ r) (y1 vs (e _ _ ha))
    obtain ⟨d', h1', h2'⟩ := Reps.get (Reps.mono e _ _ r') (y2 us (e _ _ hb))
    exact ⟨same_new hp _, _, zipL_get xs ys i d d' h1 h1', ⟨p, _, rfl, upd_same, ⟨x, [y], rfl, Rep.mono (same_new hp _) _ _ h2, y, [], rfl, Rep.mono (same_new hp _) _ _ h2', rfl⟩⟩⟩
def zipD : List Dv → Option (Rs (List Dv))
  | [.tup xs, .tup ys] => if xs.length = ys.length then some (.ok (zipL xs ys)) else none
  | _ => none
theorem fig_zip {X : Cx} {es : List Expr} {k : Nat} {pt p pos : Pos} {l r : Expr} {ga : FnA} (hg : Gl X "zip") (hm : X.mg "zip" = none) (ha : FA X [l, r] ga) (hs : starEach [l, r] X.env = [(false, eval l X.env), (false, eval r X.env)] := by kernel_rfl) (hs2 : starEach [r] X.env = [(false, eval r X.env)] := by kernel_rfl) : FIG X (.Tuple es k pt) (.Call (.Name "zip" p) [l, r] [] pos) (fun ρ => bnd (ga ρ) zipD) := by
  constructor
  intro pins s σ H R I h
  obtain ⟨ρ, E, o⟩ := h
  have key : OutA X H (ga ρ) fun vs H' => ∃ ds, Reps X.K H' ds vs ∧ OutG X H' (zipD ds) R := by
    match hf : ga ρ, o with
    | some (.exc c), o => exact o
    | some (.ok ds), o => exact fun vs H' e rs => ⟨ds, rs, OutG.mono e o⟩
  refine Call_ (ld_blt I hg hm (show bootBuiltins "zip" = some (.type "zip") by decide +kernel) (PyProof.Rows.callWith_type1 (thn (ha.h pos pins s σ H _ I ⟨ρ, E, key⟩) fun us s1 ⟨vs, H1, I1, r1, ds, rs, q1⟩ => ?_) (by rw [hs, hs2]) (by rw [hs2]; rfl)))
  unfold zipD at q1
  split at q1
  · rename_i xs ys
    split at q1
    · rename_i hl
      obtain ⟨v, v', rfl, rv, rv'⟩ := reps2 rs
      obtain ⟨a, ws, rfl, h1, h2⟩ := rv.tupE
      obtain ⟨b, ws', rfl, h1', h2'⟩ := rv'.tupE
      obtain ⟨u, u', rfl, ru, ru'⟩ := Vals.two r1
      cases ru
      cases ru'
      obtain ⟨its, rt, pl, hz⟩ := I1.tuple (SqT.of h1)
      obtain ⟨jts, rt', pl', hz'⟩ := I1.tuple (SqT.of h1')
      refine call_zipT (show s1.heap.IsTuple a its.toArray from pl) (show s1.heap.IsTuple b jts.toArray from pl') fun h' g1 g2 g3 g4 g5 g6 kk => ?_
      refine wpAny_pyIter_zip g1 ?_
      have I2 : Inv X pins σ H1 { s1 with heap := h' } := I1.kept (t' := s1.toks) kk
      have gt : ∀ m n : Nat, m ≠ n → s1.heap.objs.size + m ≠ s1.heap.objs.size + n := fun m n hmn e => hmn (Nat.add_left_cancel e)
      have g0 : ∀ m : Nat, 0 ≠ m → s1.heap.objs.size ≠ s1.heap.objs.size + m := fun m hm e => hm (Nat.add_left_cancel (n := s1.heap.objs.size) e)
      refine ⟨s1.heap.objs.size + 4, [s1.heap.objs.size + 4, s1.heap.objs.size + 2, s1.heap.objs.size + 3, s1.heap.objs.size, s1.heap.objs.size + 1], _, Itz a b, H1, rfl, I2,
        turn_zip a b _ _ _ _ _ ⟨gt 2 4 (by decide), gt 3 4 (by decide), g0 4 (by decide), gt 1 4 (by decide), gt 2 3 (by decide), (g0 2 (by decide)).symm, gt 2 1 (by decide), (g0 3 (by decide)).symm, gt 3 1 (by decide), g0 1 (by decide)⟩, ⟨g1, g2, ⟨_, _, g3⟩, g4, g5⟩, fun c hc => ?_, q1 _ H1 (.refl H1) (wk_zip h1 h1' h2 h2' hl)⟩
      rcases five hc with rfl | rfl | rfl | rfl | rfl
      · exact I1.fpOk (Nat.le_add_right _ _) (I1.hok.fresh (Nat.le_add_right _ _))
      · exact I1.fpOk (Nat.le_add_right _ _) (I1.hok.fresh (Nat.le_add_right _ _))
      · exact I1.fpOk (Nat.le_add_right _ _) (I1.hok.fresh (Nat.le_add_right _ _))
      · exact I1.fpOk (Nat.le_refl _) (I1.hok.fresh (Nat.le_refl _))
      · exact I1.fpOk (Nat.le_add_right _ _) (I1.hok.fresh (Nat.le_add_right _ _))
    · exact q1.elim
  · exact q1.elim
def loopG (b : Dv → Ev → Option Ev) (js : List Nat) (body : FnS) : List Dv → Ev → Option Fl
  | [], ρ => some (.nx (fgt js ρ))
  | d :: ds, ρ => match b d (fgt js ρ) with
    | none => none
    | some ρ1 => match body ρ1 with
      | some (.nx ρ') => loopG b js body ds ρ'
      | o => o
def fForG (b : Dv → Ev → Option Ev) (js : List Nat) (src : FnA) (body : FnS) : FnS := fun ρ => bndS (src ρ) fun ds => loopG b js body ds ρ
def tgG (X : Cx) (b : Dv → Ev → Option Ev) : TG := fun v σ H Q => ∃ d ρ ρ', Rep X.K H d v ∧ Envs X.K H σ ρ ∧ b d ρ = some ρ' ∧ ∀ σ' H', Same H H' → Envs X.K H' σ' ρ' → Q σ' H'
theorem FG.pg {X : Cx} {tg : Expr} {b : Dv → Ev → Option Ev} (h : FG X tg b) : PG X tg (tgG X b) := fun pins s σ H v u Q I r ⟨d, ρ, ρ', rd, E, e, q⟩ =>
  thn (h.h pins s σ H v u d ρ ρ' I r rd E e) fun _ s' ⟨σ', H', I', e1, E'⟩ => ⟨σ', H', I', q σ' H' e1 E'⟩
theorem fs_forG {X : Cx} {tg iter : Expr} {body : List Stmt} {pos : Pos} {src : FnA} {fb : FnS} {b : Dv → Ev → Option Ev} (js : List Nat) (hp : PassesOwn (model X.prog X.w) X.A X.env X.xe) (hc : X.calm = true) (hi : FIG X tg iter src) (hg : FG X tg b) (hb : FSs X body fb)
    (hs : ∀ x, foldedSetIterable iter X.env x = pure x := by intro _; kernel_rfl) : FS X (.For tg iter body [] pos) (fForG b js src fb) := by
  refine fs_of (ps_for hp hc hi.h hg.pg hb.h hs) fun D σ H ρ E o => ⟨ρ, E, ?_⟩
  unfold fForG at o
  match hf : src ρ, o with
  | none, o => exact o
  | some (.exc c), o => exact o
  | some (.ok ds), o =>
    intro J H1 e1 wk
    have o1 : OutS X H1 (loopG b js fb ds ρ) D := OutS.mono e1 o
    refine ⟨fun n m σ' H' => m = ds.length - n ∧ n ≤ ds.length ∧ Same H1 H' ∧ ∃ ρ', Envs X.K H' σ' ρ' ∧ OutS X H' (loopG b js fb (ds.drop n) ρ') D, ⟨ds.length, by simp, Nat.zero_le _, .refl H1, ρ, E.mono e1, by simpa using o1⟩, ?_⟩
    rintro n m σ' H' ⟨rfl, hn, e2, ρ', E', o'⟩
    by_cases hlt : n < ds.length
    · refine .inr ⟨wk.go n H' e2 hlt, fun σ2 H2 => Same H1 H2 ∧ ∃ ρ2, Envs X.K H2 σ2 ρ2 ∧ OutS X H2 (loopG b js fb (ds.drop (n + 1)) ρ2) D, fun σ2 H2 ⟨e3, ρ2, E2, o2⟩ => ⟨ds.length - (n + 1), by omega, rfl, hlt, e3, ρ2, E2, o2⟩, fun x H2 y => ?_⟩
      obtain ⟨e4, d, hd, rd⟩ := wk.yld n H' x H2 e2 hlt y
      rw [drop_cons hd] at o'
      unfold loopG at o'
      match hb0 : b d (fgt js ρ') with
      | none => rw [hb0] at o'; exact o'.elim
      | some ρ1 =>
        rw [hb0] at o'
        refine ⟨d, fgt js ρ', ρ1, rd, (Envs.fgt js E').mono e4, hb0, fun σ3 H3 e5 E3 => ?_⟩
        show tS X fb _ _ _
        refine ⟨ρ1, E3, ?_⟩
        have o2 := OutS.mono (e4.trans e5) o'
        dsimp only at o2
        match hb' : fb ρ1 with
        | none => rw [hb'] at o2; exact o2
        | some (.exc c) => rw [hb'] at o2; exact o2
        | some (.rt r) => rw [hb'] at o2; exact o2
        | some (.nx ρ2) => rw [hb'] at o2; exact fun σ4 H4 e6 E4 => ⟨((e2.trans e4).trans e5).trans e6, ρ2, E4, OutS.mono e6 o2⟩
    · have hn' : n = ds.length := by omega
      subst hn'
      rw [List.drop_length] at o'
      exact .inl ⟨wk.stop H' e2, o' σ' H' (.refl H') (Envs.fgt js E')⟩
def strA : List Dv → Option (Rs Dv)
  | [.str x] => some (.ok (.str x))
  | xs => strD xs
end FD
namespace FD
open PySem PySem.Spec PyProof.Rows L2
section
variable {X : Cx} {p pos : Pos} {e : Expr} {es : List Expr} {ga : FnA}
theorem call_strA : CallR X (.type "str") (fun xs H Q => (∃ i, xs = [.int i] ∧ i.natAbs.log2 < 1920 ∧ Q (.str (toString i)) H) ∨ ∃ x, xs = [.str x] ∧ Q (.str x) H) := by
  intro pins s σ H xs us Q I r h
  rcases h with ⟨i, rfl, hz, q⟩ | ⟨x, rfl, q⟩
  · obtain ⟨u, rfl, t, rfl⟩ := vals1 r
    exact PySem.P.str_of_int hz ⟨.str _, H, I.tok _, ⟨_, rfl⟩, q⟩
  · obtain ⟨u, rfl, t, rfl⟩ := vals1 r
    exact PySem.P.str_of_str ⟨.str _, H, I, ⟨_, rfl⟩, q⟩
theorem fe_strA (hg : Gl X "str") (hm : X.mg "str" = none) (ha : FA X (e :: es) ga) (he : starEach (e :: es) X.env = (false, eval e X.env) :: starEach es X.env := by kernel_rfl) (hpl : (backTo pos (starEach es X.env)).any (·.1) = false := by kernel_rfl) : FE X (.Call (.Name "str" p) (e :: es) [] pos) (fB1 strA ga) :=
  fe_of (pe_callTy call_strA hg hm (by decide +kernel) ha.h (by decide) (by decide) he hpl) fun σ H Q ρ E o => ⟨ρ, E, OutA.bind o fun ds vs H1 e1 rs o1 => by
    unfold strA at o1
    split at o1
    · rename_i x
      obtain ⟨v, rfl, r⟩ := reps1 rs
      cases (show v = .str x from r)
      exact .inr ⟨x, rfl, o1 _ H1 (.refl H1) rfl⟩
    · unfold strD at o1
      split at o1
      · rename_i i _
        split at o1
        · rename_i hz
          obtain ⟨v, rfl, r⟩ := reps1 rs
          cases (show v = .int i from r)
          exact .inl ⟨i, rfl, hz, o1 _ H1 (.refl H1) rfl⟩
        · exact o1.elim
      · exact o1.elim⟩
end
end FD
namespace FD
open PySem PySem.Spec PyProof.Rows L2
def oStore (fi fe : FnE) : FnO2 := fun ρ ds => bndO (fe ρ) fun d => bndO (fi ρ) fun k => match k with
  | .int k => if 0 ≤ k ∧ k < ds.length then some (.nx ρ (ds.set k.toNat d)) else none
  | _ => none
theorem Reps.set {K : PySem.W.Frag} {H : Hp} {d : Dv} {v : V} (rd : Rep K H d v) : ∀ {ds : List Dv} {vs : List V} (j : Nat), Reps K H ds vs → Reps K H (ds.set j d) (vs.set j v)
  | [], vs, j, r => by cases (show vs = [] from r); exact r
  | d0 :: ds, vs, 0, r => by
    obtain ⟨v0, vs', rfl, r0, rt⟩ : ∃ v us', vs = v :: us' ∧ Rep K H d0 v ∧ Reps K H ds us' := r
    exact ⟨v, vs', rfl, rd, rt⟩
  | d0 :: ds, vs, j + 1, r => by
    obtain ⟨v0, vs', rfl, r0, rt⟩ : ∃ v us', vs = v :: us' ∧ Rep K H d0 v ∧ Reps K H ds us' := r
    exact ⟨v0, vs'.set j v, rfl, r0, Reps.set rd j rt⟩
section
variable {X : Cx} {i : Nat} {e ix : Expr} {fe fi : FnE} {pos ps : Pos}
theorem fo_store (hex : X.ex = []) {x : Str} {apos : Pos} (hx : PE X (.Name x apos) (tVar i)) (hi : FE X ix fi) (he : FE X e fe)
    (hs : swapsWithSole [.Subscript (.Name x apos) ix ps] e pos.line X.env = pure false := by kernel_rfl) (hw : swappedStores [.Subscript (.Name x apos) ix ps] e X.env = pure none := by kernel_rfl)
    (h1 : (assignEach [.Subscript (.Name x apos) ix ps] X.env).map (·.2) = [assign (.Subscript (.Name x apos) ix ps) X.env] := by kernel_rfl)
    (ha : ∀ v, assign (.Subscript (.Name x apos) ix ps) X.env v = (do let ov ← holding [v] (eval (.Name x apos) X.env); let iv ← holding [v, ov] (eval ix X.env); standAt ps; holding [v, ov, iv] (setItem ov iv v); release [v, ov, iv] []) := by intro _; kernel_rfl) :
    FO1 X i (.Assign [.Subscript (.Name x apos) ix ps] e pos) (oStore fi fe) := ⟨fun pins s σ Hf D I ⟨H, a, xs, ρ, ds, e1, ha', hia, E, r, o⟩ => by
  refine ps_asg (pe_lift hex he.h) (pg_sub hx (pe_lift hex hi.h) set_list ha) hs hw h1 pins s σ Hf D I ⟨H, a, xs, e1, ha', ρ, E, ?_⟩
  unfold oStore at o
  match hfe : fe ρ with
  | none => rw [hfe] at o; exact o.elim
  | some (.exc _) => rw [hfe] at o; exact o.elim
  | some (.ok d) =>
    rw [hfe] at o
    match hfi : fi ρ with
    | none => dsimp only [bndO] at o; rw [hfi] at o; exact o.elim
    | some (.exc _) => dsimp only [bndO] at o; rw [hfi] at o; exact o.elim
    | some (.ok k) =>
      dsimp only [bndO] at o
      rw [hfi] at o
      dsimp only at o
      intro v H' e' rd ha2
      refine ⟨.ref a, hia, H', a, xs, rfl, ha2, ρ, E.mono e', ?_⟩
      show Out X H' (fi ρ) _
      rw [hfi]
      intro w H2 e2 rk ha3
      cases k <;> try exact (show False from o).elim
      rename_i k
      dsimp only at o
      split at o
      · rename_i hk
        cases (show w = .int k from rk)
        have hl := r.length
        have hj : ixN xs.length k = some k.toNat := by
          unfold ixN
          rw [if_pos hk.1, if_pos (by omega)]
        refine ⟨a, xs, k, k.toNat, rfl, rfl, upd_same, hj, ?_⟩
        rw [upd_upd]
        exact o σ H2 (xs.set k.toNat v) (e'.trans e2) ha3 hia (E.mono (e'.trans e2)) (Reps.set (Rep.mono e2 _ _ rd) k.toNat (Reps.mono (e'.trans e2) _ _ r))
      · exact o.elim⟩
end
end FD
namespace FD
open PySem PySem.Spec PyProof.Rows L2
def nums : List (Str × Int) := [(Str.ofString "0", 0), (Str.ofString "1", 1), (Str.ofString "2", 2), (Str.ofString "3", 3), (Str.ofString "4", 4), (Str.ofString "5", 5), (Str.ofString "6", 6), (Str.ofString "7", 7), (Str.ofString "8", 8), (Str.ofString "9", 9), (Str.ofString "10", 10), (Str.ofString "11", 11), (Str.ofString "12", 12), (Str.ofString "13", 13), (Str.ofString "14", 14), (Str.ofString "15", 15), (Str.ofString "16", 16), (Str.ofString "17", 17), (Str.ofString "18", 18), (Str.ofString "19", 19), (Str.ofString "20", 20), (Str.ofString "21", 21), (Str.ofString "22", 22), (Str.ofString "23", 23), (Str.ofString "24", 24), (Str.ofString "25", 25), (Str.ofString "26", 26), (Str.ofString "27", 27), (Str.ofString "28", 28), (Str.ofString "29", 29), (Str.ofString "30", 30), (Str.ofString "31", 31), (Str.ofString "32", 32), (Str.ofString "33", 33), (Str.ofString "34", 34), (Str.ofString "35", 35), (Str.ofString "36", 36), (Str.ofString "37", 37), (Str.ofString "38", 38), (Str.ofString "39", 39), (Str.ofString "40", 40), (Str.ofString "41", 41), (Str.ofString "42", 42), (Str.ofString "43", 43), (Str.ofString "44", 44), (Str.ofString "45", 45), (Str.ofString "46", 46), (Str.ofString "47", 47), (Str.ofString "48", 48), (Str.ofString "49", 49), (Str.ofString "50", 50), (Str.ofString "51", 51), (Str.ofString "52", 52), (Str.ofString "53", 53), (Str.ofString "54", 54), (Str.ofString "55", 55), (Str.ofString "56", 56), (Str.ofString "57", 57), (Str.ofString "58", 58), (Str.ofString "59", 59), (Str.ofString "60", 60), (Str.ofString "61", 61), (Str.ofString "62", 62), (Str.ofString "63", 63), (Str.ofString "64", 64), (Str.ofString "65", 65), (Str.ofString "66", 66), (Str.ofString "67", 67), (Str.ofString "68", 68), (Str.ofString "69", 69), (Str.ofString "70", 70), (Str.ofString "71", 71), (Str.ofString "72", 72), (Str.ofString "73", 73), (Str.ofString "74", 74), (Str.ofString "75", 75), (Str.ofString "76", 76), (Str.ofString "77", 77), (Str.ofString "78", 78), (Str.ofString "79", 79), (Str.ofString "80", 80), (Str.ofString "81", 81), (Str.ofString "82", 82), (Str.ofString "83", 83), (Str.ofString "84", 84), (Str.ofString "85", 85), (Str.ofString "86", 86), (Str.ofString "87", 87), (Str.ofString "88", 88), (Str.ofString "89", 89), (Str.ofString "90", 90), (Str.ofString "91", 91), (Str.ofString "92", 92), (Str.ofString "93", 93), (Str.ofString "94", 94), (Str.ofString "95", 95), (Str.ofString "96", 96), (Str.ofString "97", 97), (Str.ofString "98", 98), (Str.ofString "99", 99), (Str.ofString "0012", 12)]
def intD : List Dv → Option (Rs Dv)
  | [.str x] => (match nums.find? fun p => seq p.1 x with | some p => some (.ok (.int p.2)) | none => none)
  | _ => none
theorem no_int_str : typeLookup (.type "str") "__int__" = pure none := by rw [typeLookup_type, builtinLookup_eq_fast]; kernel_rfl
theorem no_index_str : typeLookup (.type "str") "__index__" = pure none := by rw [typeLookup_type, builtinLookup_eq_fast]; kernel_rfl
theorem no_trunc_str : typeLookup (.type "str") "__trunc__" = pure none := by rw [typeLookup_type, builtinLookup_eq_fast]; kernel_rfl
theorem wp_eqv {α : Type} {M : Model} {A : Around} {t t' : Sem α} {Q : α → Shared → Prop} {E : Value → Shared → Prop} {s : Shared} (e : t = t') (h : wpAny M A t' Q E s) : wpAny M A t Q E s := by rw [e]; exact h
set_option maxHeartbeats 4000000 in
theorem meets_int_new_str (x : Str) (u : Tok) (i : Int) (hx : (x, i) ∈ nums) : Meets (Builtin.«int.__new__» ⟨[.type "int", .str x u], []⟩) (Made.int i).spec :=
  Meets.of_wp fun prog w A R s hs => by
    obtain ⟨hp, g, d, tk, os⟩ := s
    have f1 := F.conv_sub_int
    have f2 := F.madeHere_int
    have hT : (⟨hp, g, d, tk, os⟩ : Shared).TypeIs (.str x u) "str" := rfl
    have f3 := no_int_str
    have f4 := no_index_str
    have f5 := no_trunc_str
    repeat (any_goals (first | assumption | wp_step))
    refine wp_eqv (t' := mkInt i) ?_ ?_
    · simp only [nums, List.mem_cons, Prod.mk.injEq, List.not_mem_nil, or_false] at hx
      rcases hx with ⟨rfl, rfl⟩ | ⟨rfl, rfl⟩ | ⟨rfl, rfl⟩ | ⟨rfl, rfl⟩ | ⟨rfl, rfl⟩ | ⟨rfl, rfl⟩ | ⟨rfl, rfl⟩ | ⟨rfl, rfl⟩ | ⟨rfl, rfl⟩ | ⟨rfl, rfl⟩ | ⟨rfl, rfl⟩ | ⟨rfl, rfl⟩ | ⟨rfl, rfl⟩ | ⟨rfl, rfl⟩ | ⟨rfl, rfl⟩ | ⟨rfl, rfl⟩ | ⟨rfl, rfl⟩ | ⟨rfl, rfl⟩ | ⟨rfl, rfl⟩ | ⟨rfl, rfl⟩ | ⟨rfl, rfl⟩ | ⟨rfl, rfl⟩ | ⟨rfl, rfl⟩ | ⟨rfl, rfl⟩ | ⟨rfl, rfl⟩ | ⟨rfl, rfl⟩ | ⟨rfl, rfl⟩ | ⟨rfl, rfl⟩ | ⟨rfl, rfl⟩ | ⟨rfl, rfl⟩ | ⟨rfl, rfl⟩ | ⟨rfl, rfl⟩ | ⟨rfl, rfl⟩ | ⟨rfl, rfl⟩ | ⟨rfl, rfl⟩ | ⟨rfl, rfl⟩ | ⟨rfl, rfl⟩ | ⟨rfl, rfl⟩ | ⟨rfl, rfl⟩ | ⟨rfl, rfl⟩ | ⟨rfl, rfl⟩ | ⟨rfl, rfl⟩ | ⟨rfl, rfl⟩ | ⟨rfl, rfl⟩ | ⟨rfl, rfl⟩ | ⟨rfl, rfl⟩ | ⟨rfl, rfl⟩ | ⟨rfl, rfl⟩ | ⟨rfl, rfl⟩ | ⟨rfl, rfl⟩ | ⟨rfl, rfl⟩ | ⟨rfl, rfl⟩ | ⟨rfl, rfl⟩ | ⟨rfl, rfl⟩ | ⟨rfl, rfl⟩ | ⟨rfl, rfl⟩ | ⟨rfl, rfl⟩ | ⟨rfl, rfl⟩ | ⟨rfl, rfl⟩ | ⟨rfl, rfl⟩ | ⟨rfl, rfl⟩ | ⟨rfl, rfl⟩ | ⟨rfl, rfl⟩ | ⟨rfl, rfl⟩ | ⟨rfl, rfl⟩ | ⟨rfl, rfl⟩ | ⟨rfl, rfl⟩ | ⟨rfl, rfl⟩ | ⟨rfl, rfl⟩ | ⟨rfl, rfl⟩ | ⟨rfl, rfl⟩ | ⟨rfl, rfl⟩ | ⟨rfl, rfl⟩ | ⟨rfl, rfl⟩ | ⟨rfl, rfl⟩ | ⟨rfl, rfl⟩ | ⟨rfl, rfl⟩ | ⟨rfl, rfl⟩ | ⟨rfl, rfl⟩ | ⟨rfl, rfl⟩ | ⟨rfl, rfl⟩ | ⟨rfl, rfl⟩ | ⟨rfl, rfl⟩ | ⟨rfl, rfl⟩ | ⟨rfl, rfl⟩ | ⟨rfl, rfl⟩ | ⟨rfl, rfl⟩ | ⟨rfl, rfl⟩ | ⟨rfl, rfl⟩ | ⟨rfl, rfl⟩ | ⟨rfl, rfl⟩ | ⟨rfl, rfl⟩ | ⟨rfl, rfl⟩ | ⟨rfl, rfl⟩ | ⟨rfl, rfl⟩ | ⟨rfl, rfl⟩ | ⟨rfl, rfl⟩ | ⟨rfl, rfl⟩ | ⟨rfl, rfl⟩ | ⟨rfl, rfl⟩ | ⟨rfl, rfl⟩ <;> kernel_rfl
    · refine wpAny_mkInt ?_
      repeat (any_goals (first | assumption | wp_step))
      all_goals first | exact ⟨_, rfl, hs⟩ | skip
theorem call_int_str {prog : Program} {w : World} {A : Around} {E : Value → Shared → Prop} {s : Shared} {x : Str} {u : Tok} {i : Int} {Q : Value → Shared → Prop} (hx : (x, i) ∈ nums) (h : Q (.int i s.toks) { s with toks := s.toks + 1 }) : wpAny (model prog w) A (call (.type "int") [.str x u]) Q E s :=
  call_int_1 (meets_int_new_str x u i hx) (show (Made.int i).post _ s from ⟨rfl, h⟩)
section
variable {X : Cx} {p pos : Pos} {e : Expr} {es : List Expr} {ga : FnA}
theorem call_intS : CallR X (.type "int") (fun xs H Q => ∃ x i, xs = [.str x] ∧ (x, i) ∈ nums ∧ Q (.int i) H) := by
  intro pins s σ H xs us Q I r h
  obtain ⟨x, i, rfl, hx, q⟩ := h
  obtain ⟨u, rfl, t, rfl⟩ := vals1 r
  exact call_int_str hx ⟨.int _, H, I.tok _, ⟨_, rfl⟩, q⟩
theorem fe_int_s (hg : Gl X "int") (hm : X.mg "int" = none) (ha : FA X (e :: es) ga) (he : starEach (e :: es) X.env = (false, eval e X.env) :: starEach es X.env := by kernel_rfl) (hpl : (backTo pos (starEach es X.env)).any (·.1) = false := by kernel_rfl) : FE X (.Call (.Name "int" p) (e :: es) [] pos) (fB1 intD ga) :=
  fe_of (pe_callTy call_intS hg hm (by decide +kernel) ha.h (by decide) (by decide) he hpl) fun σ H Q ρ E o => ⟨ρ, E, OutA.bind o fun ds vs H1 e1 rs o1 => by
    unfold intD at o1
    split at o1
    · rename_i x
      split at o1
      · rename_i q hq
        obtain ⟨v, rfl, r⟩ := reps1 rs
        cases (show v = .str x from r)
        have h1 := List.mem_of_find?_eq_some hq
        have h2 := List.find?_some hq
        have h3 : q.1 = x := by
          unfold seq at h2
          obtain ⟨⟨⟨a⟩⟩, b⟩ := q; obtain ⟨⟨c⟩⟩ := x
          simp at h2
          rw [h2]
        exact ⟨x, q.2, rfl, by rw [← h3]; exact h1, o1 _ H1 (.refl H1) rfl⟩
      · exact o1.elim
    · exact o1.elim⟩
end
end FD
namespace FD
open PySem PySem.Spec PyProof.Rows L2
def loopP (j k : Nat) (js : List Nat) (body : FnO2) : List Dv → Ev → List Dv → Option Fo
  | [], ρ, xs => some (.nx (fgt js ρ) xs)
  | .tup [a, c] :: ds, ρ, xs => (match body (((fgt js ρ).set j (some a)).set k (some c)) xs with
    | some (.nx ρ' xs') => loopP j k js body ds ρ' xs'
    | o => o)
  | _ :: _, _, _ => none
def oForP (j k : Nat) (js : List Nat) (src : FnA) (body : FnO2) : FnO2 := fun ρ xs => bndO (src ρ) fun ds => if imms ds = true then loopP j k js body ds ρ xs else none
def tgP (K : PySem.W.Frag) (j k : Nat) : TG := fun v σ H Q => ∃ p va vc, v = .ref p ∧ SqT K H p [va, vc] ∧ Q ((σ.set j (some va)).set k (some vc)) H
theorem pg_pair {X : Cx} {pos p1 p2 : Pos} (i j : Nat) {x y : Str} {k : Nat} (hc : X.calm = true) (hN : X.N.Nodup) (hi : X.N[i]? = some x) (hx : Loc X.env.scope x) (hf : X.fn x = true ∨ X.env.scope.names.lookup x = some .local)
    (hj : X.N[j]? = some y) (hy : Loc X.env.scope y) (hg : X.fn y = true ∨ X.env.scope.names.lookup y = some .local)
    (hs1 : (assignEach [.Name x p1, .Name y p2] X.env).map (·.2) = assign (.Name x p1) X.env :: (assignEach [.Name y p2] X.env).map (·.2) := by kernel_rfl) (hs2 : (assignEach [.Name y p2] X.env).map (·.2) = assign (.Name y p2) X.env :: (assignEach [] X.env).map (·.2) := by kernel_rfl)
    (hn : (assignEach [.Name x p1, .Name y p2] X.env).length = 2 := by kernel_rfl) (hst : (assignEach [.Name x p1, .Name y p2] X.env).findIdx? (·.1) = none := by kernel_rfl) : PG X (.Tuple [.Name x p1, .Name y p2] k pos) (tgP X.K i j) :=
  fun pins s σ H v u Q I r ⟨p, va, vc, e, hq, q⟩ =>
    pg_tup (n := 2) hc (pgs_cons (pg_name (i := i) hN hi hx hf) (pgs_cons (pg_name (i := j) hN hj hy hg) pgs_nil hs2) hs1) hn hst pins s σ H v u Q I r ⟨p, _, e, hq, rfl, va, [vc], rfl, vc, [], rfl, rfl, q⟩
theorem fo_forP {X : Cx} {i : Nat} {tg iter : Expr} {body : List Stmt} {pos : Pos} {src : FnA} {fb : FnO2} (hex : X.ex = []) (j k : Nat) (js : List Nat) (hij : i ≠ j) (hik : i ≠ k) (hp : PassesOwn (model X.prog X.w) X.A X.env X.xe) (hc : X.calm = true) (hi : FIG X tg iter src) (hg : PG X tg (tgP X.K j k)) (hb : FOs X i body fb)
    (hs : ∀ x, foldedSetIterable iter X.env x = pure x := by intro _; kernel_rfl) : FO1 X i (.For tg iter body [] pos) (oForP j k js src fb) := ⟨fun pins s σ Hf D I ⟨H, a, xs, ρ, ds, e1, ha, hia, E, r, o⟩ => by
  refine ps_for hp hc (pi_lift hex hi.h) hg hb.h hs pins s σ Hf D I ⟨H, a, xs, e1, ha, ρ, E, ?_⟩
  unfold oForP at o
  match hf : src ρ with
  | none => rw [hf] at o; exact o.elim
  | some (.exc _) => rw [hf] at o; exact o.elim
  | some (.ok us) =>
    rw [hf] at o
    have o0 : OutW X i a H (if imms us = true then loopP j k js fb us ρ ds else none) D := o
    by_cases him : imms us = true
    · rw [if_pos him] at o0
      intro J H1 e1 wk ha1
      have o1 := OutW.mono e1 o0
      refine ⟨fun n m σ' Hf' => m = us.length - n ∧ n ≤ us.length ∧ ∃ H' xs' ρ' ds', Hf' = upd H' a (.lst xs') ∧ H' a = none ∧ Same H1 H' ∧ σ'[i]? = some (some (.ref a)) ∧ Envs X.K H' σ' ρ' ∧ Reps X.K H' ds' xs' ∧ OutW X i a H' (loopP j k js fb (us.drop n) ρ' ds') D,
        ⟨us.length, by simp, Nat.zero_le _, H1, xs, ρ, ds, rfl, ha1, .refl H1, hia, E.mono e1, Reps.mono e1 _ _ r, by simpa using o1⟩, ?_⟩
      rintro n m σ' Hf' ⟨rfl, hn, H', xs', ρ', ds', rfl, ha', e2, hia', E', r', o'⟩
      have e2f : Same H1 (upd H' a (.lst xs')) := e2.trans (same_full ha')
      by_cases hlt : n < us.length
      · refine .inr ⟨wk.go n _ e2f hlt, fun σ2 Hf2 => ∃ H2 xs2 ρ2 ds2, Hf2 = upd H2 a (.lst xs2) ∧ H2 a = none ∧ Same H1 H2 ∧ σ2[i]? = some (some (.ref a)) ∧ Envs X.K H2 σ2 ρ2 ∧ Reps X.K H2 ds2 xs2 ∧ OutW X i a H2 (loopP j k js fb (us.drop (n + 1)) ρ2 ds2) D,
          fun σ2 Hf2 q => ⟨us.length - (n + 1), by omega, rfl, hlt, q⟩, fun x H2 y => ?_⟩
        obtain ⟨e4, d, hd, rd⟩ := wk.yld n _ x H2 e2f hlt y
        have him' := imms_get him hd
        rw [drop_cons hd] at o'
        obtain ⟨d1, d2, rfl⟩ : ∃ d1 d2, d = .tup [d1, d2] := by
          match d, o' with
          | .tup [d1, d2], _ => exact ⟨d1, d2, rfl⟩
          | .tup [], o' => exact (show False from o').elim
          | .tup [_], o' => exact (show False from o').elim
          | .tup (_ :: _ :: _ :: _), o' => exact (show False from o').elim
          | .non, o' => exact (show False from o').elim
          | .bl _, o' => exact (show False from o').elim
          | .int _, o' => exact (show False from o').elim
          | .str _, o' => exact (show False from o').elim
          | .lst _, o' => exact (show False from o').elim
          | .scr _, o' => exact (show False from o').elim
          | .exn _, o' => exact (show False from o').elim
        unfold loopP at o'
        · obtain ⟨p, vs, rfl, hpv, rv⟩ := rd.tupE
          obtain ⟨va, vc, rfl, ra, rc⟩ := reps2 rv
          have hi2 : imm d1 = true ∧ imm d2 = true := by simpa [imm, imms] using him'
          have hat : H2 a = some (.lst xs') := e4 _ _ upd_same
          let H3 : Hp := fun b => if b = a then none else H2 b
          have h3a : H3 a = none := by simp [H3]
          have h3e : upd H3 a (.lst xs') = H2 := by
            funext b
            by_cases hb : b = a
            · rw [hb, upd_same, hat]
            · rw [upd_ne hb]; simp [H3, hb]
          have s3 : Same H' H3 := fun b o q => by
            have hb : b ≠ a := fun z => by rw [z, ha'] at q; cases q
            have := e4 b o (by rw [upd_ne hb]; exact q)
            simpa [H3, hb] using this
          rw [← h3e] at ra rc
          have ra' := rep_down hi2.1 ra
          have rc' := rep_down hi2.2 rc
          refine ⟨p, va, vc, rfl, SqT.of hpv, ?_⟩
          show tO X i fb _ _ _
          refine ⟨H3, a, xs', ((fgt js ρ').set j (some d1)).set k (some d2), ds', h3e.symm, h3a, by rw [List.getElem?_set_ne (Ne.symm hik), List.getElem?_set_ne (Ne.symm hij)]; exact hia', (((Envs.fgt js E').mono s3).set ra').set rc', Reps.mono s3 _ _ r', ?_⟩
          have o2 := OutW.mono s3 o'
          match hb' : fb (((fgt js ρ').set j (some d1)).set k (some d2)) ds' with
          | none => rw [hb'] at o2; exact o2
          | some (.rt r) => rw [hb'] at o2; exact o2
          | some (.nx ρ2 ds2) => rw [hb'] at o2; exact fun σ2 H4 xs3 e3 h3 hi3 E3 r3 => ⟨H4, xs3, ρ2, ds2, rfl, h3, (e2.trans s3).trans e3, hi3, E3, r3, OutW.mono e3 o2⟩
      · have hn' : n = us.length := by omega
        subst hn'
        rw [List.drop_length] at o'
        exact .inl ⟨wk.stop _ e2f, o' σ' H' xs' (.refl H') ha' hia' (Envs.fgt js E') r'⟩
    · rw [if_neg him] at o0
      exact o0.elim⟩
end FD
namespace FD
open PySem PySem.Spec PyProof.Rows L2
theorem pickL_back (its : List Value) : slicePick its.toArray none none (some (-1)) = its.reverse.toArray := by
  have e : sliceRange ((its.length : Int) - 1) (-1) (-1) = (List.range its.length).map fun (k : Nat) => ((its.length : Int) - 1 + (-1) * (k : Int)).toNat := by
    have hc : (if (-1 : Int) > 0 then (if ((its.length : Int) - 1) < -1 then (-1 - ((its.length : Int) - 1) + (-1) - 1) / (-1) else 0) else (if ((its.length : Int) - 1) > -1 then (((its.length : Int) - 1) - (-1) - (-1) - 1) / (-(-1)) else 0)) = (its.length : Int) := by
      rw [if_neg (by decide)]
      split
      · have : ((its.length : Int) - 1 - (-1) - (-1) - 1) / (-(-1)) = (its.length : Int) := by
          rw [show ((its.length : Int) - 1 - (-1) - (-1) - 1) = (its.length : Int) by omega, show (-(-1) : Int) = 1 by decide, Int.ediv_one]
        exact this
      · omega
    unfold sliceRange
    dsimp only
    rw [hc]
    simp
  show ((sliceRange ((its.toArray.size : Int) - 1) (-1) (-1)).filterMap (its.toArray[·]?)).toArray = _
  rw [List.size_toArray, e, List.filterMap_map, ← pick_back]
  congr 2
  funext m
  show its.toArray[((its.length : Int) - 1 + (-1) * (m : Int)).toNat]? = _
  rw [show ((its.length : Int) - 1 + (-1) * (m : Int)) = ((its.length : Int) - 1 + (m : Int) * -1) by omega]
def backL : Dv → Option (Rs Dv)
  | .lst xs => some (.ok (.lst xs.reverse))
  | _ => none
def fBackL (fa : FnE) : FnE := fun ρ => bnd (fa ρ) backL
section
variable {X : Cx}
theorem fe_backL {a st : Expr} {fa fs : FnE} {p2 pos : Pos} (ha : FE X a fa) (hst : FE X st fs) (hv : ∀ ρ, fs ρ = some (.ok (.int (-1))) := by intro _; rfl) : FE X (.Subscript a (.Slice none none (some st) p2) pos) (fBackL fa) := ⟨fun pins s σ H Q I ⟨ρ, E, o⟩ => by
  refine Subscript_ (thn (ha.h pins s σ H (fun x H1 => Envs X.K H1 σ ρ ∧ ∃ ds, Rep X.K H1 (.lst ds) x ∧ Out X H1 (some (.ok (.lst ds.reverse))) Q) I ⟨ρ, E, Out.bind o fun d v H1 e1 r1 o1 => ?_⟩) fun v s1 ⟨x, H1, I1, r1, E1, ds, rx, q⟩ => ?_)
  · cases d <;> try exact (show False from o1).elim
    exact ⟨E.mono e1, _, r1, o1⟩
  · refine wpAny_Slice ?_
    rw [evalPart_none]
    refine wpAny_pure ?_
    refine wpAny_pure ?_
    rw [evalPart_some]
    refine thn (hst.h pins s1 σ H1 (fun y H2 => y = .int (-1) ∧ Same H1 H2) I1 ⟨ρ, E1, by rw [hv]; exact fun v H' e r => ⟨r, e⟩⟩) fun u s3 ⟨y, H3, I3, r3, e3, e4⟩ => ?_
    subst e3
    obtain ⟨tk, rfl⟩ := r3
    obtain ⟨b, xs, rfl, h1, h2⟩ := (Rep.mono e4 _ _ rx).lstE
    cases r1
    have I4 : Inv X pins σ H3 { s3 with heap := s3.heap.push { cls := .type "slice", data := .fields #[.none, .none, .int (-1) tk] } } := I3.kept (t' := s3.toks) fun b ob q => Heap.get?_push_of_some _ q
    obtain ⟨its, r, ht, hz⟩ := I4.list (SqL.of h1)
    have hlen := r.length
    show wpAny (model X.prog X.w) X.A (subscriptTail a (.Slice none none (some st) p2) (.ref b) (.ref s3.heap.objs.size)) (EP X pins σ Q) X.xe _
    refine tail_any (ops := [.ref b, .ref s3.heap.objs.size]) ht.isList.typeIs slot_list_getitem.lookup (wpAny_getItem_list_slice ht.isList (Heap.IsSliceOf.new ..) .none .none (.int (-1) tk) (by simp) ?_ (by rw [List.size_toArray] <;> omega)) (by with_unfolding_all rfl)
    rw [pickL_back]
    have hp := I4.hok.fresh (Nat.le_refl _)
    refine ⟨.ref _, _, I4.laid (t' := s3.toks) (o := .lst xs.reverse) (fun b ob q => Heap.get?_push_of_some _ q) (Nat.le_refl _) ?_, rfl, q _ _ (e4.trans (same_new hp _)) ⟨_, _, rfl, upd_same, Reps.mono (same_new hp _) _ _ (Reps.reverse h2)⟩⟩
    exact ⟨by rw [List.length_reverse]; exact hz, _, 0, Vals.reverse r, Heap.get?_push_size _ rfl⟩⟩
end
end FD
namespace FD
open PySem PySem.Spec PyProof.Rows L2
section
variable {X : Cx}
end
end FD
namespace FD
open PySem PySem.Spec PyProof.Rows L2
theorem all_mem {α : Type} {p : α → Bool} {l : List α} (h : l.all p = true) {x : α} (hx : x ∈ l) : p x = true := List.all_eq_true.mp h x hx
end FD
namespace G
open PySem PySem.Spec PyProof.Rows L2 FD
def top (i : Nat) : Stmt := PySem.Challenge.pw_notejar_k32_whole_giving.main.body.getD i (.Pass ⟨0, 0, 0, 0⟩)
abbrev s__law_cell : Stmt := top 47
theorem sc__law_cell : FnScope ["_law_script", "_law_k"] ["_law_script", "_law_k"] (defScope s__law_cell) := ⟨rfl, rfl, rfl, by decide +kernel, rfl, by decide +kernel, by decide +kernel⟩
theorem bd__law_cell {K : PySem.W.Frag} {f : Addr} {fd : FuncData} (Fn : Fun K "_law_cell" "_law_cell" s__law_cell f fd) : Binds K fd ["_law_script", "_law_k"] [] := Fn.binds fun _ _ _ _ _ _ us hl => match us, hl with | [_, _], _ => rfl
abbrev s__law_drawn : Stmt := top 48
theorem sc__law_drawn : FnScope ["_law_script", "_law_k", "_law_many", "_law_cell_here"] ["_law_script", "_law_k", "_law_many"] (defScope s__law_drawn) := ⟨rfl, rfl, rfl, by decide +kernel, rfl, by decide +kernel, by decide +kernel⟩
theorem bd__law_drawn {K : PySem.W.Frag} {f : Addr} {fd : FuncData} (Fn : Fun K "_law_drawn" "_law_drawn" s__law_drawn f fd) : Binds K fd ["_law_script", "_law_k", "_law_many"] [] := Fn.binds fun _ _ _ _ _ _ us hl => match us, hl with | [_, _, _], _ => rfl
abbrev s__law_name : Stmt := top 49
theorem sc__law_name : FnScope ["_law_script", "_law_at", "_law_some"] ["_law_script", "_law_at"] (defScope s__law_name) := ⟨rfl, rfl, rfl, by decide +kernel, rfl, by decide +kernel, by decide +kernel⟩
theorem bd__law_name {K : PySem.W.Frag} {f : Addr} {fd : FuncData} (Fn : Fun K "_law_name" "_law_name" s__law_name f fd) : Binds K fd ["_law_script", "_law_at"] [] := Fn.binds fun _ _ _ _ _ _ us hl => match us, hl with | [_, _], _ => rfl
abbrev s__law_path : Stmt := top 51
theorem sc__law_path : FnScope ["_law_script", "_law_at", "_law_some"] ["_law_script", "_law_at"] (defScope s__law_path) := ⟨rfl, rfl, rfl, by decide +kernel, rfl, by decide +kernel, by decide +kernel⟩
theorem bd__law_path {K : PySem.W.Frag} {f : Addr} {fd : FuncData} (Fn : Fun K "_law_path" "_law_path" s__law_path f fd) : Binds K fd ["_law_script", "_law_at"] [] := Fn.binds fun _ _ _ _ _ _ us hl => match us, hl with | [_, _], _ => rfl
abbrev s__law_given : Stmt := top 53
theorem sc__law_given : FnScope ["_law_script", "_law_at", "_law_house", "_law_name_here", "_law_worth", "_law_some", "_law_path_here", "_law_until", "_law_lasts", "_law_reach", "_law_safe"] ["_law_script", "_law_at", "_law_house"] (defScope s__law_given) := ⟨rfl, rfl, rfl, by decide +kernel, rfl, by decide +kernel, by decide +kernel⟩
theorem bd__law_given {K : PySem.W.Frag} {f : Addr} {fd : FuncData} (Fn : Fun K "_law_given" "_law_given" s__law_given f fd) : Binds K fd ["_law_script", "_law_at", "_law_house"] [] := Fn.binds fun _ _ _ _ _ _ us hl => match us, hl with | [_, _, _], _ => rfl
abbrev s__law_text : Stmt := top 54
theorem sc__law_text : FnScope ["_law_given_here", "_law_name_here", "_law_worth", "_law_house", "_law_path_here", "_law_until", "_law_lasts", "_law_safe", "_law_reach", "_law_text_here", "_law_word", "_law_thing"] ["_law_given_here"] (defScope s__law_text) := ⟨rfl, rfl, rfl, by decide +kernel, rfl, by decide +kernel, by decide +kernel⟩
theorem bd__law_text {K : PySem.W.Frag} {f : Addr} {fd : FuncData} (Fn : Fun K "_law_text" "_law_text" s__law_text f fd) : Binds K fd ["_law_given_here"] [] := Fn.binds fun _ _ _ _ _ _ us hl => match us, hl with | [_], _ => rfl
abbrev s_is_whole_number : Stmt := top 5
theorem sc_is_whole_number : FnScope ["thing", "least", "most"] ["thing", "least", "most"] (defScope s_is_whole_number) := ⟨rfl, rfl, rfl, by decide +kernel, rfl, by decide +kernel, by decide +kernel⟩
theorem bd_is_whole_number {K : PySem.W.Frag} {f : Addr} {fd : FuncData} (Fn : Fun K "is_whole_number" "is_whole_number" s_is_whole_number f fd) : Binds K fd ["thing", "least", "most"] [] := Fn.binds fun _ _ _ _ _ _ us hl => match us, hl with | [_, _, _], _ => rfl
abbrev s_is_moment : Stmt := top 20
theorem sc_is_moment : FnScope ["thing"] ["thing"] (defScope s_is_moment) := ⟨rfl, rfl, rfl, by decide +kernel, rfl, by decide +kernel, by decide +kernel⟩
theorem bd_is_moment {K : PySem.W.Frag} {f : Addr} {fd : FuncData} (Fn : Fun K "is_moment" "is_moment" s_is_moment f fd) : Binds K fd ["thing"] [] := Fn.binds fun _ _ _ _ _ _ us hl => match us, hl with | [_], _ => rfl
abbrev s_is_moment_or_none : Stmt := top 21
theorem sc_is_moment_or_none : FnScope ["thing"] ["thing"] (defScope s_is_moment_or_none) := ⟨rfl, rfl, rfl, by decide +kernel, rfl, by decide +kernel, by decide +kernel⟩
theorem bd_is_moment_or_none {K : PySem.W.Frag} {f : Addr} {fd : FuncData} (Fn : Fun K "is_moment_or_none" "is_moment_or_none" s_is_moment_or_none f fd) : Binds K fd ["thing"] [] := Fn.binds fun _ _ _ _ _ _ us hl => match us, hl with | [_], _ => rfl
abbrev s_is_text_of : Stmt := top 4
theorem sc_is_text_of : FnScope ["thing", "signs", "least", "most"] ["thing", "signs", "least", "most"] (defScope s_is_text_of) := ⟨rfl, rfl, rfl, by decide +kernel, rfl, by decide +kernel, by decide +kernel⟩
theorem bd_is_text_of {K : PySem.W.Frag} {f : Addr} {fd : FuncData} (Fn : Fun K "is_text_of" "is_text_of" s_is_text_of f fd) : Binds K fd ["thing", "signs", "least", "most"] [] := Fn.binds fun _ _ _ _ _ _ us hl => match us, hl with | [_, _, _, _], _ => rfl
abbrev s_is_label : Stmt := top 12
theorem sc_is_label : FnScope ["thing"] ["thing"] (defScope s_is_label) := ⟨rfl, rfl, rfl, by decide +kernel, rfl, by decide +kernel, by decide +kernel⟩
theorem bd_is_label {K : PySem.W.Frag} {f : Addr} {fd : FuncData} (Fn : Fun K "is_label" "is_label" s_is_label f fd) : Binds K fd ["thing"] [] := Fn.binds fun _ _ _ _ _ _ us hl => match us, hl with | [_], _ => rfl
abbrev s_is_name : Stmt := top 13
theorem sc_is_name : FnScope ["thing", "parts"] ["thing"] (defScope s_is_name) := ⟨rfl, rfl, rfl, by decide +kernel, rfl, by decide +kernel, by decide +kernel⟩
theorem bd_is_name {K : PySem.W.Frag} {f : Addr} {fd : FuncData} (Fn : Fun K "is_name" "is_name" s_is_name f fd) : Binds K fd ["thing"] [] := Fn.binds fun _ _ _ _ _ _ us hl => match us, hl with | [_], _ => rfl
abbrev s_is_note_name : Stmt := top 37
theorem sc_is_note_name : FnScope ["thing"] ["thing"] (defScope s_is_note_name) := ⟨rfl, rfl, rfl, by decide +kernel, rfl, by decide +kernel, by decide +kernel⟩
theorem bd_is_note_name {K : PySem.W.Frag} {f : Addr} {fd : FuncData} (Fn : Fun K "is_note_name" "is_note_name" s_is_note_name f fd) : Binds K fd ["thing"] [] := Fn.binds fun _ _ _ _ _ _ us hl => match us, hl with | [_], _ => rfl
abbrev s_is_path : Stmt := top 17
theorem sc_is_path : FnScope ["thing"] ["thing"] (defScope s_is_path) := ⟨rfl, rfl, rfl, by decide +kernel, rfl, by decide +kernel, by decide +kernel⟩
theorem bd_is_path {K : PySem.W.Frag} {f : Addr} {fd : FuncData} (Fn : Fun K "is_path" "is_path" s_is_path f fd) : Binds K fd ["thing"] [] := Fn.binds fun _ _ _ _ _ _ us hl => match us, hl with | [_], _ => rfl
abbrev s_is_reach : Stmt := top 39
theorem sc_is_reach : FnScope ["thing"] ["thing"] (defScope s_is_reach) := ⟨rfl, rfl, rfl, by decide +kernel, rfl, by decide +kernel, by decide +kernel⟩
theorem bd_is_reach {K : PySem.W.Frag} {f : Addr} {fd : FuncData} (Fn : Fun K "is_reach" "is_reach" s_is_reach f fd) : Binds K fd ["thing"] [] := Fn.binds fun _ _ _ _ _ _ us hl => match us, hl with | [_], _ => rfl
abbrev s_is_tuple_of : Stmt := top 6
theorem sc_is_tuple_of : FnScope ["thing", "parts"] ["thing", "parts"] (defScope s_is_tuple_of) := ⟨rfl, rfl, rfl, by decide +kernel, rfl, by decide +kernel, by decide +kernel⟩
theorem bd_is_tuple_of {K : PySem.W.Frag} {f : Addr} {fd : FuncData} (Fn : Fun K "is_tuple_of" "is_tuple_of" s_is_tuple_of f fd) : Binds K fd ["thing", "parts"] [] := Fn.binds fun _ _ _ _ _ _ us hl => match us, hl with | [_, _], _ => rfl
abbrev s_is_worth : Stmt := top 38
theorem sc_is_worth : FnScope ["thing"] ["thing"] (defScope s_is_worth) := ⟨rfl, rfl, rfl, by decide +kernel, rfl, by decide +kernel, by decide +kernel⟩
theorem bd_is_worth {K : PySem.W.Frag} {f : Addr} {fd : FuncData} (Fn : Fun K "is_worth" "is_worth" s_is_worth f fd) : Binds K fd ["thing"] [] := Fn.binds fun _ _ _ _ _ _ us hl => match us, hl with | [_], _ => rfl
abbrev s_is_given : Stmt := top 40
theorem sc_is_given : FnScope ["thing"] ["thing"] (defScope s_is_given) := ⟨rfl, rfl, rfl, by decide +kernel, rfl, by decide +kernel, by decide +kernel⟩
theorem bd_is_given {K : PySem.W.Frag} {f : Addr} {fd : FuncData} (Fn : Fun K "is_given" "is_given" s_is_given f fd) : Binds K fd ["thing"] [] := Fn.binds fun _ _ _ _ _ _ us hl => match us, hl with | [_], _ => rfl
abbrev s_need_given : Stmt := top 41
theorem sc_need_given : FnScope ["thing"] ["thing"] (defScope s_need_given) := ⟨rfl, rfl, rfl, by decide +kernel, rfl, by decide +kernel, by decide +kernel⟩
theorem bd_need_given {K : PySem.W.Frag} {f : Addr} {fd : FuncData} (Fn : Fun K "need_given" "need_given" s_need_given f fd) : Binds K fd ["thing"] [] := Fn.binds fun _ _ _ _ _ _ us hl => match us, hl with | [_], _ => rfl
abbrev s_given_text : Stmt := top 45
theorem sc_given_text : FnScope ["given", "parts"] ["given"] (defScope s_given_text) := ⟨rfl, rfl, rfl, by decide +kernel, rfl, by decide +kernel, by decide +kernel⟩
theorem bd_given_text {K : PySem.W.Frag} {f : Addr} {fd : FuncData} (Fn : Fun K "given_text" "given_text" s_given_text f fd) : Binds K fd ["given"] [] := Fn.binds fun _ _ _ _ _ _ us hl => match us, hl with | [_], _ => rfl
abbrev s_is_written_moment : Stmt := top 42
theorem sc_is_written_moment : FnScope ["text"] ["text"] (defScope s_is_written_moment) := ⟨rfl, rfl, rfl, by decide +kernel, rfl, by decide +kernel, by decide +kernel⟩
theorem bd_is_written_moment {K : PySem.W.Frag} {f : Addr} {fd : FuncData} (Fn : Fun K "is_written_moment" "is_written_moment" s_is_written_moment f fd) : Binds K fd ["text"] [] := Fn.binds fun _ _ _ _ _ _ us hl => match us, hl with | [_], _ => rfl
abbrev s_what_is_told : Stmt := top 43
theorem sc_what_is_told : FnScope ["part", "pieces", "word", "rest"] ["part"] (defScope s_what_is_told) := ⟨rfl, rfl, rfl, by decide +kernel, rfl, by decide +kernel, by decide +kernel⟩
theorem bd_what_is_told {K : PySem.W.Frag} {f : Addr} {fd : FuncData} (Fn : Fun K "what_is_told" "what_is_told" s_what_is_told f fd) : Binds K fd ["part"] [] := Fn.binds fun _ _ _ _ _ _ us hl => match us, hl with | [_], _ => rfl
abbrev s_read_given : Stmt := top 44
theorem sc_read_given : FnScope ["text", "parts", "first", "given", "part", "told"] ["text"] (defScope s_read_given) := ⟨rfl, rfl, rfl, by decide +kernel, rfl, by decide +kernel, by decide +kernel⟩
theorem bd_read_given {K : PySem.W.Frag} {f : Addr} {fd : FuncData} (Fn : Fun K "read_given" "read_given" s_read_given f fd) : Binds K fd ["text"] [] := Fn.binds fun _ _ _ _ _ _ us hl => match us, hl with | [_], _ => rfl
abbrev s_law : Stmt := top 55
theorem sc_law : FnScope ["_law_script", "_law_given_here", "_law_other", "_law_text_here", "_law_parts", "_law_turned", "_law_at", "_law_some", "_law_odd", "_law_ahead", "_law_again", "_law_due", "_law_mine", "_law_old"] ["_law_script"] (defScope s_law) := ⟨rfl, rfl, rfl, by decide +kernel, rfl, by decide +kernel, by decide +kernel⟩
def B__law_cell : FnS := (fSeq (fIfS (fB (f2 scrD (fVar 0) (fLst aNil))) (fRet (f2 mulD (fC (.int 7)) (fVar 1))) (fun ρ => some (.nx ρ))) (fRet (f2 addD (f2 ixD (fVar 0) (f2 modD (fVar 1) (fB1 lenD (aCons (fVar 0) aNil)))) (f2 mulD (fC (.int 6553)) (f2 fdivD (fVar 1) (fB1 lenD (aCons (fVar 0) aNil)))))))
def F__law_cell : List Dv → Option (Rs Dv) := runF 2 B__law_cell
set_option maxHeartbeats 4000000 in
theorem fn__law_cell {P : Program} {w : World} {K : PySem.W.Frag} {mg : Str → Option Value} {base : Heap} {f : Addr} {fd : FuncData} (Fn : Fun K "_law_cell" "_law_cell" s__law_cell f fd) (m_len : mg "len" = none) :
    FnOk P w K mg base CX0 1 f fd ["_law_script", "_law_k"] (spF K F__law_cell 2) :=
  fn_ok2 (k := 0) ["_law_script", "_law_k"] ["_law_script", "_law_k"] B__law_cell (by kernel_rfl) (by kernel_rfl) Fn sc__law_cell fun cdv A outer s H E hr => (fss_cons (fs_if (ft_cmp (o_scr hr.units0) g_scr (fe_lv 0) (fe_lst fa_nil) (nomark _)) (fss_one (fs_ret (fe_op op_mul g_mul fe_int (fe_lv 1)))) fss_nil) (fss_one (fs_ret (fe_op o_add g_add (fe_ix (fe_lv 0) (fe_op op_mod g_mod (fe_lv 1) (fe_len (glb (by kernel_rfl)) m_len (fa_cons (fe_lv 0) fa_nil)))) (fe_op op_mul g_mul fe_int (fe_op op_fdiv g_fdiv (fe_lv 1) (fe_len (glb (by kernel_rfl)) m_len (fa_cons (fe_lv 0) fa_nil))))))))
def B__law_drawn : FnS := (fSeq (fSet 3 (f2 modD (f2 addD (f2 mulD (f2 modD (fCall F__law_cell 2 (aCons (fVar 0) (aCons (fVar 1) aNil))) (fC (.int 2147483563))) (fC (.int 69069))) (f2 mulD (fC (.int 104723)) (f2 addD (fVar 1) (fC (.int 1))))) (fC (.int 2147483563)))) (fSeq (fSet 3 (f2 modD (f2 addD (f2 mulD (fVar 3) (fVar 3)) (f2 fdivD (fVar 3) (fC (.int 3)))) (fC (.int 2147483399)))) (fRet (f2 modD (f2 fdivD (f2 modD (f2 addD (f2 mulD (fVar 3) (fVar 3)) (f2 fdivD (fVar 3) (fC (.int 7)))) (fC (.int 2147483647))) (fC (.int 11))) (fVar 2)))))
def F__law_drawn : List Dv → Option (Rs Dv) := runF 4 B__law_drawn
set_option maxHeartbeats 4000000 in
theorem fn__law_drawn {P : Program} {w : World} {K : PySem.W.Frag} {mg : Str → Option Value} {base : Heap} {f : Addr} {fd : FuncData} (Fn : Fun K "_law_drawn" "_law_drawn" s__law_drawn f fd) (h__law_cell : Has P w K mg base "_law_cell" 1 ["_law_script", "_law_k"] F__law_cell) :
    FnOk P w K mg base CX0 2 f fd ["_law_script", "_law_k", "_law_many"] (spF K F__law_drawn 3) :=
  fn_ok2 (k := 1) ["_law_script", "_law_k", "_law_many", "_law_cell_here"] ["_law_script", "_law_k", "_law_many"] B__law_drawn (by kernel_rfl) (by kernel_rfl) Fn sc__law_drawn fun cdv A outer s H E hr => (fss_cons (fs_set 3 sc__law_drawn.nd (by kernel_rfl) (.inl (by kernel_rfl)) (fe_op op_mod g_mod (fe_op o_add g_add (fe_op op_mul g_mul (fe_op op_mod g_mod (fe_callH (k' := 1) 1 ["_law_script", "_law_k"] F__law_cell h__law_cell hr (by decide) (glb (by kernel_rfl)) (fa_cons (fe_lv 0) (fa_cons (fe_lv 1) fa_nil))) fe_int) fe_int) (fe_op op_mul g_mul fe_int (fe_op o_add g_add (fe_lv 1) fe_int))) fe_int)) (fss_cons (fs_set 3 sc__law_drawn.nd (by kernel_rfl) (.inl (by kernel_rfl)) (fe_op op_mod g_mod (fe_op o_add g_add (fe_op op_mul g_mul (fe_lv 3) (fe_lv 3)) (fe_op op_fdiv g_fdiv (fe_lv 3) fe_int)) fe_int)) (fss_one (fs_ret (fe_op op_mod g_mod (fe_op op_fdiv g_fdiv (fe_op op_mod g_mod (fe_op o_add g_add (fe_op op_mul g_mul (fe_lv 3) (fe_lv 3)) (fe_op op_fdiv g_fdiv (fe_lv 3) fe_int)) fe_int) fe_int) (fe_lv 2))))))
def B__law_name : FnS := (fSeq (fSet 2 (fLst (aCons (fC (.str "a.b")) (aCons (fC (.str "b")) (aCons (fC (.str "x.a.b")) (aCons (fC (.str "y.x.a.b")) (aCons (fC (.str "c.uk")) (aCons (fC (.str "uk")) (aCons (fC (.str "d.c.uk")) (aCons (fC (.str "e.d.c.uk")) aNil)))))))))) (fSeq (fSet 2 (f2 addD (fVar 2) (fLst (aCons (fC (.str "w.ck")) (aCons (fC (.str "v.w.ck")) (aCons (fC (.str "ck")) (aCons (fC (.str "g-1.a.b")) (aCons (fC (.str "7.b")) (aCons (fC (.str "p.q")) aNil))))))))) (fRet (f2 ixD (fVar 2) (fCall F__law_drawn 3 (aCons (fVar 0) (aCons (fVar 1) (aCons (fB1 lenD (aCons (fVar 2) aNil)) aNil))))))))
def F__law_name : List Dv → Option (Rs Dv) := runF 3 B__law_name
set_option maxHeartbeats 4000000 in
theorem fn__law_name {P : Program} {w : World} {K : PySem.W.Frag} {mg : Str → Option Value} {base : Heap} {f : Addr} {fd : FuncData} (Fn : Fun K "_law_name" "_law_name" s__law_name f fd) (h__law_drawn : Has P w K mg base "_law_drawn" 2 ["_law_script", "_law_k", "_law_many"] F__law_drawn) (m_len : mg "len" = none) :
    FnOk P w K mg base CX0 3 f fd ["_law_script", "_law_at"] (spF K F__law_name 2) :=
  fn_ok2 (k := 2) ["_law_script", "_law_at", "_law_some"] ["_law_script", "_law_at"] B__law_name (by kernel_rfl) (by kernel_rfl) Fn sc__law_name fun cdv A outer s H E hr => (fss_cons (fs_set 2 sc__law_name.nd (by kernel_rfl) (.inl (by kernel_rfl)) (fe_lst (fa_cons fe_str (fa_cons fe_str (fa_cons fe_str (fa_cons fe_str (fa_cons fe_str (fa_cons fe_str (fa_cons fe_str (fa_cons fe_str fa_nil)))))))))) (fss_cons (fs_set 2 sc__law_name.nd (by kernel_rfl) (.inl (by kernel_rfl)) (fe_op o_add g_add (fe_lv 2) (fe_lst (fa_cons fe_str (fa_cons fe_str (fa_cons fe_str (fa_cons fe_str (fa_cons fe_str (fa_cons fe_str fa_nil))))))))) (fss_one (fs_ret (fe_ix (fe_lv 2) (fe_callH (k' := 2) 2 ["_law_script", "_law_k", "_law_many"] F__law_drawn h__law_drawn hr (by decide) (glb (by kernel_rfl)) (fa_cons (fe_lv 0) (fa_cons (fe_lv 1) (fa_cons (fe_len (glb (by kernel_rfl)) m_len (fa_cons (fe_lv 2) fa_nil)) fa_nil)))))))))
def B__law_path : FnS := (fSeq (fSet 2 (fLst (aCons (fC (.str "/")) (aCons (fC (.str "/x")) (aCons (fC (.str "/x/")) (aCons (fC (.str "/x/y")) (aCons (fC (.str "/xy")) (aCons (fC (.str "/x/y/z.q")) (aCons (fC (.str "//")) (aCons (fC (.str "/-_.9")) (aCons (fC (.str "/x/y/")) aNil))))))))))) (fRet (f2 ixD (fVar 2) (fCall F__law_drawn 3 (aCons (fVar 0) (aCons (fVar 1) (aCons (fB1 lenD (aCons (fVar 2) aNil)) aNil)))))))
def F__law_path : List Dv → Option (Rs Dv) := runF 3 B__law_path
set_option maxHeartbeats 4000000 in
theorem fn__law_path {P : Program} {w : World} {K : PySem.W.Frag} {mg : Str → Option Value} {base : Heap} {f : Addr} {fd : FuncData} (Fn : Fun K "_law_path" "_law_path" s__law_path f fd) (h__law_drawn : Has P w K mg base "_law_drawn" 2 ["_law_script", "_law_k", "_law_many"] F__law_drawn) (m_len : mg "len" = none) :
    FnOk P w K mg base CX0 3 f fd ["_law_script", "_law_at"] (spF K F__law_path 2) :=
  fn_ok2 (k := 2) ["_law_script", "_law_at", "_law_some"] ["_law_script", "_law_at"] B__law_path (by kernel_rfl) (by kernel_rfl) Fn sc__law_path fun cdv A outer s H E hr => (fss_cons (fs_set 2 sc__law_path.nd (by kernel_rfl) (.inl (by kernel_rfl)) (fe_lst (fa_cons fe_str (fa_cons fe_str (fa_cons fe_str (fa_cons fe_str (fa_cons fe_str (fa_cons fe_str (fa_cons fe_str (fa_cons fe_str (fa_cons fe_str fa_nil))))))))))) (fss_one (fs_ret (fe_ix (fe_lv 2) (fe_callH (k' := 2) 2 ["_law_script", "_law_k", "_law_many"] F__law_drawn h__law_drawn hr (by decide) (glb (by kernel_rfl)) (fa_cons (fe_lv 0) (fa_cons (fe_lv 1) (fa_cons (fe_len (glb (by kernel_rfl)) m_len (fa_cons (fe_lv 2) fa_nil)) fa_nil))))))))
def B__law_given : FnS := (fSeq (fSet 3 (f2 ixD (fLst (aCons (fC (.str "n")) (aCons (fC (.str "safe-a")) (aCons (fC (.str "own-b")) (aCons (fC (.str "N_2")) (aCons (fC (.str "m-1")) (aCons (fC (.str "safe-")) (aCons (fC (.str "n")) aNil)))))))) (fCall F__law_drawn 3 (aCons (fVar 0) (aCons (fVar 1) (aCons (fC (.int 7)) aNil)))))) (fSeq (fSet 4 (f2 ixD (fLst (aCons (fC (.str "5")) (aCons (fC (.str "")) (aCons (fC (.str "a!b~")) (aCons (fC (.str "x/y?z")) (aCons (fC (.str "123456789012")) aNil)))))) (fCall F__law_drawn 3 (aCons (fVar 0) (aCons (f2 addD (fVar 1) (fC (.int 1))) (aCons (fC (.int 5)) aNil)))))) (fOwn 5 (aCons (fC .non) (aCons (fC .non) (aCons (fVar 2) (aCons (f2 ixD (fM (splitD) (fVar 2) (aCons (fC (.str ".")) aNil)) (f1 negD (fC (.int 1)))) (aCons (fCall F__law_name 2 (aCons (fVar 0) (aCons (f2 addD (fVar 1) (fC (.int 3))) aNil))) aNil))))) (oSeq (oApp (fIf (fB (f2 inD (fC (.str ".")) (fVar 2))) (fCut (fVar 2) (oSome (f2 addD (fM sixD (fVar 2) (aCons (fC (.str ".")) aNil)) (fC (.int 1)))) oNone) (fVar 2))) (oSeq (oSet 6 (f2 ixD (fLst (aCons (fC .non) (aCons (fC (.str "/")) (aCons (fCall F__law_path 2 (aCons (fVar 0) (aCons (f2 addD (fVar 1) (fC (.int 5))) aNil))) aNil)))) (fCall F__law_drawn 3 (aCons (fVar 0) (aCons (f2 addD (fVar 1) (fC (.int 4))) (aCons (fC (.int 3)) aNil)))))) (oSeq (oSet 7 (f2 ixD (fLst (aCons (fC .non) (aCons (fC .non) (aCons (fCall F__law_drawn 3 (aCons (fVar 0) (aCons (f2 addD (fVar 1) (fC (.int 7))) (aCons (fC (.int 60)) aNil)))) aNil)))) (fCall F__law_drawn 3 (aCons (fVar 0) (aCons (f2 addD (fVar 1) (fC (.int 6))) (aCons (fC (.int 3)) aNil)))))) (oSeq (oSet 8 (f2 ixD (fLst (aCons (fC .non) (aCons (fC .non) (aCons (fCall F__law_drawn 3 (aCons (fVar 0) (aCons (f2 addD (fVar 1) (fC (.int 9))) (aCons (fC (.int 30)) aNil)))) aNil)))) (fCall F__law_drawn 3 (aCons (fVar 0) (aCons (f2 addD (fVar 1) (fC (.int 8))) (aCons (fC (.int 3)) aNil)))))) (oSeq (oSet 9 (f2 ixD (fLst (aCons (fC (.str "any")) (aCons (fC (.str "near")) aNil))) (fCall F__law_drawn 3 (aCons (fVar 0) (aCons (f2 addD (fVar 1) (fC (.int 11))) (aCons (fC (.int 2)) aNil)))))) (oSeq (oSet 10 (f2 eqX (fCall F__law_drawn 3 (aCons (fVar 0) (aCons (f2 addD (fVar 1) (fC (.int 10))) (aCons (fC (.int 2)) aNil)))) (fC (.int 0)))) (oRet 5 (fTup (aCons (fVar 3) (aCons (fVar 4) (aCons (f2 ixD (fVar 5) (fCall F__law_drawn 3 (aCons (fVar 0) (aCons (f2 addD (fVar 1) (fC (.int 2))) (aCons (fC (.int 6)) aNil))))) (aCons (fVar 6) (aCons (fVar 7) (aCons (fVar 8) (aCons (fVar 10) (aCons (fVar 9) aNil)))))))))))))))))))
def F__law_given : List Dv → Option (Rs Dv) := runF 11 B__law_given
set_option maxHeartbeats 4000000 in
theorem fn__law_given {P : Program} {w : World} {K : PySem.W.Frag} {mg : Str → Option Value} {base : Heap} {f : Addr} {fd : FuncData} (Fn : Fun K "_law_given" "_law_given" s__law_given f fd) (h__law_drawn : Has P w K mg base "_law_drawn" 2 ["_law_script", "_law_k", "_law_many"] F__law_drawn) (h__law_name : Has P w K mg base "_law_name" 3 ["_law_script", "_law_at"] F__law_name) (h__law_path : Has P w K mg base "_law_path" 3 ["_law_script", "_law_at"] F__law_path) :
    FnOk P w K mg base CX0 4 f fd ["_law_script", "_law_at", "_law_house"] (spF K F__law_given 3) :=
  fn_ok2 (k := 3) ["_law_script", "_law_at", "_law_house", "_law_name_here", "_law_worth", "_law_some", "_law_path_here", "_law_until", "_law_lasts", "_law_reach", "_law_safe"] ["_law_script", "_law_at", "_law_house"] B__law_given (by kernel_rfl) (by kernel_rfl) Fn sc__law_given fun cdv A outer s H E hr => (fss_cons (fs_set 3 sc__law_given.nd (by kernel_rfl) (.inl (by kernel_rfl)) (fe_ix (fe_lst (fa_cons fe_str (fa_cons fe_str (fa_cons fe_str (fa_cons fe_str (fa_cons fe_str (fa_cons fe_str (fa_cons fe_str fa_nil)))))))) (fe_callH (k' := 3) 2 ["_law_script", "_law_k", "_law_many"] F__law_drawn h__law_drawn hr (by decide) (glb (by kernel_rfl)) (fa_cons (fe_lv 0) (fa_cons (fe_lv 1) (fa_cons fe_int fa_nil)))))) (fss_cons (fs_set 4 sc__law_given.nd (by kernel_rfl) (.inl (by kernel_rfl)) (fe_ix (fe_lst (fa_cons fe_str (fa_cons fe_str (fa_cons fe_str (fa_cons fe_str (fa_cons fe_str fa_nil)))))) (fe_callH (k' := 3) 2 ["_law_script", "_law_k", "_law_many"] F__law_drawn h__law_drawn hr (by decide) (glb (by kernel_rfl)) (fa_cons (fe_lv 0) (fa_cons (fe_op o_add g_add (fe_lv 1) fe_int) (fa_cons fe_int fa_nil)))))) (fss_own (i := 5) sc__law_given.nd (by kernel_rfl) (.inl (by kernel_rfl)) (fa_cons fe_non (fa_cons fe_non (fa_cons (fe_lv 2) (fa_cons (fe_ix (fe_strM PySem.F.slot_str_split PySem.F.type_str_split mt_split g_split (fe_lv 2) (fa_cons fe_str fa_nil)) (fe_neg fe_int)) (fa_cons (fe_callH (k' := 3) 3 ["_law_script", "_law_at"] F__law_name h__law_name hr (by decide) (glb (by kernel_rfl)) (fa_cons (fe_lv 0) (fa_cons (fe_op o_add g_add (fe_lv 1) fe_int) fa_nil))) fa_nil))))) (fos_cons (fo_app rfl (pe_var (by kernel_rfl) (.inl (by kernel_rfl)) (by kernel_rfl) (by kernel_rfl)) (fe_if (ft_cmp o_in g_in fe_str (fe_lv 2) (by kernel_rfl)) (fe_cut (fe_lv 2) (fo_some (fe_op o_add g_add (fe_strM PySem.F.slot_str_index PySem.F.type_str_index mt_six g_six (fe_lv 2) (fa_cons fe_str fa_nil)) fe_int)) fo_none) (fe_lv 2))) (fos_cons (fo_set rfl 6 (by decide) sc__law_given.nd (by kernel_rfl) (.inl (by kernel_rfl)) (fe_ix (fe_lst (fa_cons fe_non (fa_cons fe_str (fa_cons (fe_callH (k' := 3) 3 ["_law_script", "_law_at"] F__law_path h__law_path hr (by decide) (glb (by kernel_rfl)) (fa_cons (fe_lv 0) (fa_cons (fe_op o_add g_add (fe_lv 1) fe_int) fa_nil))) fa_nil)))) (fe_callH (k' := 3) 2 ["_law_script", "_law_k", "_law_many"] F__law_drawn h__law_drawn hr (by decide) (glb (by kernel_rfl)) (fa_cons (fe_lv 0) (fa_cons (fe_op o_add g_add (fe_lv 1) fe_int) (fa_cons fe_int fa_nil)))))) (fos_cons (fo_set rfl 7 (by decide) sc__law_given.nd (by kernel_rfl) (.inl (by kernel_rfl)) (fe_ix (fe_lst (fa_cons fe_non (fa_cons fe_non (fa_cons (fe_callH (k' := 3) 2 ["_law_script", "_law_k", "_law_many"] F__law_drawn h__law_drawn hr (by decide) (glb (by kernel_rfl)) (fa_cons (fe_lv 0) (fa_cons (fe_op o_add g_add (fe_lv 1) fe_int) (fa_cons fe_int fa_nil)))) fa_nil)))) (fe_callH (k' := 3) 2 ["_law_script", "_law_k", "_law_many"] F__law_drawn h__law_drawn hr (by decide) (glb (by kernel_rfl)) (fa_cons (fe_lv 0) (fa_cons (fe_op o_add g_add (fe_lv 1) fe_int) (fa_cons fe_int fa_nil)))))) (fos_cons (fo_set rfl 8 (by decide) sc__law_given.nd (by kernel_rfl) (.inl (by kernel_rfl)) (fe_ix (fe_lst (fa_cons fe_non (fa_cons fe_non (fa_cons (fe_callH (k' := 3) 2 ["_law_script", "_law_k", "_law_many"] F__law_drawn h__law_drawn hr (by decide) (glb (by kernel_rfl)) (fa_cons (fe_lv 0) (fa_cons (fe_op o_add g_add (fe_lv 1) fe_int) (fa_cons fe_int fa_nil)))) fa_nil)))) (fe_callH (k' := 3) 2 ["_law_script", "_law_k", "_law_many"] F__law_drawn h__law_drawn hr (by decide) (glb (by kernel_rfl)) (fa_cons (fe_lv 0) (fa_cons (fe_op o_add g_add (fe_lv 1) fe_int) (fa_cons fe_int fa_nil)))))) (fos_cons (fo_set rfl 9 (by decide) sc__law_given.nd (by kernel_rfl) (.inl (by kernel_rfl)) (fe_ix (fe_lst (fa_cons fe_str (fa_cons fe_str fa_nil))) (fe_callH (k' := 3) 2 ["_law_script", "_law_k", "_law_many"] F__law_drawn h__law_drawn hr (by decide) (glb (by kernel_rfl)) (fa_cons (fe_lv 0) (fa_cons (fe_op o_add g_add (fe_lv 1) fe_int) (fa_cons fe_int fa_nil)))))) (fos_cons (fo_set rfl 10 (by decide) sc__law_given.nd (by kernel_rfl) (.inl (by kernel_rfl)) (fe_cmp (o_eqX hr.units) g_eqX (fe_callH (k' := 3) 2 ["_law_script", "_law_k", "_law_many"] F__law_drawn h__law_drawn hr (by decide) (glb (by kernel_rfl)) (fa_cons (fe_lv 0) (fa_cons (fe_op o_add g_add (fe_lv 1) fe_int) (fa_cons fe_int fa_nil)))) fe_int (nomark _))) (fos_one (fo_ret (fe_tup (fa_cons (fe_lv 3) (fa_cons (fe_lv 4) (fa_cons (fe_ix (fe_lv 5) (fe_callH (k' := 3) 2 ["_law_script", "_law_k", "_law_many"] F__law_drawn h__law_drawn hr (by decide) (glb (by kernel_rfl)) (fa_cons (fe_lv 0) (fa_cons (fe_op o_add g_add (fe_lv 1) fe_int) (fa_cons fe_int fa_nil))))) (fa_cons (fe_lv 6) (fa_cons (fe_lv 7) (fa_cons (fe_lv 8) (fa_cons (fe_lv 10) (fa_cons (fe_lv 9) fa_nil))))))))))))))))))))
def b__law_text_0 : FnS := (fIfS (fB (f2 notN (fVar 11) (fC .non))) (fSet 9 (f2 addT (f2 addT (f2 addT (f2 addT (fVar 9) (fC (.str "; "))) (fVar 10)) (fC (.str " "))) (fB1 strA (aCons (fVar 11) aNil)))) (fun ρ => some (.nx ρ)))
def B__law_text : FnS := (fSeq (fUnp [1, 2, 3, 4] (fCutT (fVar 0) oNone (oSome (fC (.int 4))))) (fSeq (fUnp [5, 6, 7, 8] (fCutT (fVar 0) (oSome (fC (.int 4))) oNone)) (fSeq (fSet 9 (f2 addT (f2 addT (fVar 1) (fC (.str "="))) (fVar 2))) (fSeq (fForG (gP 10 11) [11, 10] (fun ρ => bnd ((aCons (fTup (aCons (fC (.str "for")) (aCons (fC (.str "under")) (aCons (fC (.str "until")) (aCons (fC (.str "lasts")) aNil))))) (aCons (fCutT (fVar 0) (oSome (fC (.int 2))) (oSome (fC (.int 6)))) aNil)) ρ) zipD) b__law_text_0) (fRet (f2 addT (f2 addT (fVar 9) (fIf (fB (fVar 7)) (fC (.str "; safe")) (fC (.str "")))) (fIf (fB (f2 eqX (fVar 8) (fC (.str "near")))) (fC (.str "; near")) (fC (.str "")))))))))
def F__law_text : List Dv → Option (Rs Dv) := runF 12 B__law_text
set_option maxHeartbeats 4000000 in
theorem fn__law_text {P : Program} {w : World} {K : PySem.W.Frag} {mg : Str → Option Value} {base : Heap} {f : Addr} {fd : FuncData} (Fn : Fun K "_law_text" "_law_text" s__law_text f fd) (m_str : mg "str" = none) (m_zip : mg "zip" = none) :
    FnOk P w K mg base CX0 1 f fd ["_law_given_here"] (spF K F__law_text 1) :=
  fn_ok2 (k := 0) ["_law_given_here", "_law_name_here", "_law_worth", "_law_house", "_law_path_here", "_law_until", "_law_lasts", "_law_safe", "_law_reach", "_law_text_here", "_law_word", "_law_thing"] ["_law_given_here"] B__law_text (by kernel_rfl) (by kernel_rfl) Fn sc__law_text fun cdv A outer s H E hr => (fss_cons (fs_unp rfl (gs_cons 1 sc__law_text.nd (by kernel_rfl) (.inl (by kernel_rfl)) (.inl rfl) (gs_cons 2 sc__law_text.nd (by kernel_rfl) (.inl (by kernel_rfl)) (.inl rfl) (gs_cons 3 sc__law_text.nd (by kernel_rfl) (.inl (by kernel_rfl)) (.inl rfl) (gs_cons 4 sc__law_text.nd (by kernel_rfl) (.inl (by kernel_rfl)) (.inl rfl) gs_nil)))) (fe_cutT (fe_lv 0) fo_none (fo_some fe_int))) (fss_cons (fs_unp rfl (gs_cons 5 sc__law_text.nd (by kernel_rfl) (.inl (by kernel_rfl)) (.inl rfl) (gs_cons 6 sc__law_text.nd (by kernel_rfl) (.inl (by kernel_rfl)) (.inl rfl) (gs_cons 7 sc__law_text.nd (by kernel_rfl) (.inl (by kernel_rfl)) (.inl rfl) (gs_cons 8 sc__law_text.nd (by kernel_rfl) (.inl (by kernel_rfl)) (.inl rfl) gs_nil)))) (fe_cutT (fe_lv 0) (fo_some fe_int) fo_none)) (fss_cons (fs_set 9 sc__law_text.nd (by kernel_rfl) (.inl (by kernel_rfl)) (fe_op o_addT g_addT (fe_op o_addT g_addT (fe_lv 1) fe_str) (fe_lv 2))) (fss_cons (fs_forG [11, 10] PassesOwn.never rfl (fig_zip (glb (by kernel_rfl)) m_zip (fa_cons (fe_tup (fa_cons fe_str (fa_cons fe_str (fa_cons fe_str (fa_cons fe_str fa_nil))))) (fa_cons (fe_cutT (fe_lv 0) (fo_some fe_int) (fo_some fe_int)) fa_nil))) (fg_pair 10 11 rfl sc__law_text.nd (by kernel_rfl) (.inl (by kernel_rfl)) (.inl rfl) (by kernel_rfl) (.inl (by kernel_rfl)) (.inl rfl)) (fss_one (fs_if (ft_cmp op_notN g_notN (fe_lv 11) fe_non (nomark _)) (fss_one (fs_set 9 sc__law_text.nd (by kernel_rfl) (.inl (by kernel_rfl)) (fe_op o_addT g_addT (fe_op o_addT g_addT (fe_op o_addT g_addT (fe_op o_addT g_addT (fe_lv 9) fe_str) (fe_lv 10)) fe_str) (fe_strA (glb (by kernel_rfl)) m_str (fa_cons (fe_lv 11) fa_nil))))) fss_nil))) (fss_one (fs_ret (fe_op o_addT g_addT (fe_op o_addT g_addT (fe_lv 9) (fe_if (ft_val (fe_lv 7)) fe_str fe_str)) (fe_if (ft_cmp (o_eqX hr.units) g_eqX (fe_lv 8) fe_str (nomark _)) fe_str fe_str))))))))
def B_is_whole_number : FnS := (fSeq (fIfS (bOr (bNot (fB (f1 (isiD tbInt) (fVar 0)))) (fB (f1 (isiD tbBool) (fVar 0)))) (fRet (fC (.bl false))) (fun ρ => some (.nx ρ))) (fRet (vAnd (f2 leX (fVar 1) (fVar 0)) (f2 leX (fVar 0) (fVar 2)))))
def F_is_whole_number : List Dv → Option (Rs Dv) := runF 3 B_is_whole_number
set_option maxHeartbeats 4000000 in
theorem fn_is_whole_number {P : Program} {w : World} {K : PySem.W.Frag} {mg : Str → Option Value} {base : Heap} {f : Addr} {fd : FuncData} (Fn : Fun K "is_whole_number" "is_whole_number" s_is_whole_number f fd) (m_bool : mg "bool" = none) (m_int : mg "int" = none) (m_isinstance : mg "isinstance" = none) :
    FnOk P w K mg base CX0 1 f fd ["thing", "least", "most"] (spF K F_is_whole_number 3) :=
  fn_ok2 (k := 0) ["thing", "least", "most"] ["thing", "least", "most"] B_is_whole_number (by kernel_rfl) (by kernel_rfl) Fn sc_is_whole_number fun cdv A outer s H E hr => (fss_cons (fs_if (FW.ft (fw_or (ft_not (ft_val (fe_isi (T := "int") kit_int bt_int (by decide +kernel) (by kernel_rfl) (glb (by kernel_rfl)) m_isinstance (glb (by kernel_rfl)) m_int (fe_lv 0)))) (fw_or1 (ft_val (fe_isi (T := "bool") kit_bool bt_bool (by decide +kernel) (by kernel_rfl) (glb (by kernel_rfl)) m_isinstance (glb (by kernel_rfl)) m_bool (fe_lv 0)))))) (fss_one (fs_ret fe_bl)) fss_nil) (fss_one (fs_ret (fe_and (fe_cmp o_leX g_leX (fe_lv 1) (fe_lv 0) (nomark _)) (fe_one (fe_cmp o_leX g_leX (fe_lv 0) (fe_lv 2) (nomark _)))))))
def B_is_moment : FnS := (fRet (fCall F_is_whole_number 3 (aCons (fVar 0) (aCons (fC (.int 0)) (aCons (fC (.int 9999)) aNil)))))
def F_is_moment : List Dv → Option (Rs Dv) := runF 1 B_is_moment
set_option maxHeartbeats 4000000 in
theorem fn_is_moment {P : Program} {w : World} {K : PySem.W.Frag} {mg : Str → Option Value} {base : Heap} {f : Addr} {fd : FuncData} (Fn : Fun K "is_moment" "is_moment" s_is_moment f fd) (h_is_whole_number : Has P w K mg base "is_whole_number" 1 ["thing", "least", "most"] F_is_whole_number) {t_LAST_MOMENT : Tok} (m_LAST_MOMENT : mg "LAST_MOMENT" = some (.int 9999 t_LAST_MOMENT)) :
    FnOk P w K mg base CX0 2 f fd ["thing"] (spF K F_is_moment 1) :=
  fn_ok2 (k := 1) ["thing"] ["thing"] B_is_moment (by kernel_rfl) (by kernel_rfl) Fn sc_is_moment fun cdv A outer s H E hr => (fss_one (fs_ret (fe_callH (k' := 1) 1 ["thing", "least", "most"] F_is_whole_number h_is_whole_number hr (by decide) (glb (by kernel_rfl)) (fa_cons (fe_lv 0) (fa_cons fe_int (fa_cons (fe_gint (glb (by kernel_rfl)) m_LAST_MOMENT) fa_nil))))))
def B_is_moment_or_none : FnS := (fRet (vOr (f2 isN (fVar 0) (fC .non)) (fCall F_is_moment 1 (aCons (fVar 0) aNil))))
def F_is_moment_or_none : List Dv → Option (Rs Dv) := runF 1 B_is_moment_or_none
set_option maxHeartbeats 4000000 in
theorem fn_is_moment_or_none {P : Program} {w : World} {K : PySem.W.Frag} {mg : Str → Option Value} {base : Heap} {f : Addr} {fd : FuncData} (Fn : Fun K "is_moment_or_none" "is_moment_or_none" s_is_moment_or_none f fd) (h_is_moment : Has P w K mg base "is_moment" 2 ["thing"] F_is_moment) :
    FnOk P w K mg base CX0 3 f fd ["thing"] (spF K F_is_moment_or_none 1) :=
  fn_ok2 (k := 2) ["thing"] ["thing"] B_is_moment_or_none (by kernel_rfl) (by kernel_rfl) Fn sc_is_moment_or_none fun cdv A outer s H E hr => (fss_one (fs_ret (fe_or (fe_cmp op_isN g_isN (fe_lv 0) fe_non (nomark _)) (fe_one (fe_callH (k' := 2) 2 ["thing"] F_is_moment h_is_moment hr (by decide) (glb (by kernel_rfl)) (fa_cons (fe_lv 0) fa_nil))))))
def B_is_text_of : FnS := (fSeq (fIfS (bNot (fB (f1 (isiD tbStr) (fVar 0)))) (fRet (fC (.bl false))) (fun ρ => some (.nx ρ))) (fSeq (fIfS (bOr (fB (f2 ltX (fB1 lenD (aCons (fVar 0) aNil)) (fVar 2))) (fB (f2 gtD (fB1 lenD (aCons (fVar 0) aNil)) (fVar 3)))) (fRet (fC (.bl false))) (fun ρ => some (.nx ρ))) (fRet (fB1 allD (aCons (fComp [("signs", 1)] (iSeq (fVar 0)) none (f2 inD (fVar 0) (fVar 1))) aNil)))))
def F_is_text_of : List Dv → Option (Rs Dv) := runF 4 B_is_text_of
set_option maxHeartbeats 4000000 in
theorem fn_is_text_of {P : Program} {w : World} {K : PySem.W.Frag} {mg : Str → Option Value} {base : Heap} {f : Addr} {fd : FuncData} (Fn : Fun K "is_text_of" "is_text_of" s_is_text_of f fd) (m_all : mg "all" = none) (m_isinstance : mg "isinstance" = none) (m_len : mg "len" = none) (m_str : mg "str" = none) :
    FnOk P w K mg base CX0 1 f fd ["thing", "signs", "least", "most"] (spF K F_is_text_of 4) :=
  fn_ok2 (k := 0) ["thing", "signs", "least", "most"] ["thing", "signs", "least", "most"] B_is_text_of (by kernel_rfl) (by kernel_rfl) Fn sc_is_text_of fun cdv A outer s H E hr => (fss_cons (fs_if (ft_not (ft_val (fe_isi (T := "str") kit_str bt_str (by decide +kernel) (by kernel_rfl) (glb (by kernel_rfl)) m_isinstance (glb (by kernel_rfl)) m_str (fe_lv 0)))) (fss_one (fs_ret fe_bl)) fss_nil) (fss_cons (fs_if (FW.ft (fw_or (ft_cmp o_ltX g_ltX (fe_len (glb (by kernel_rfl)) m_len (fa_cons (fe_lv 0) fa_nil)) (fe_lv 2) (nomark _)) (fw_or1 (ft_cmp op_gt (g_cmp _) (fe_len (glb (by kernel_rfl)) m_len (fa_cons (fe_lv 0) fa_nil)) (fe_lv 3) (nomark _))))) (fss_one (fs_ret fe_bl)) fss_nil) (fss_one (fs_ret (fe_all rfl (glb (by kernel_rfl)) m_all (fa_cons (fe_comp (defScope s_is_text_of) ["thing", "signs", "least", "most"] [("signs", 1)] (by kernel_rfl) (by kernel_rfl) ⟨by kernel_rfl, by kernel_rfl, by decide +kernel, by decide +kernel, by kernel_rfl, by decide +kernel, by decide +kernel, by decide +kernel⟩ (by kernel_rfl) rfl (fi_seq (fe_lv 0)) (fun _ _ _ _ => (fe_cmp o_in g_in (fe_lv 0) (fe_cv 1) (by kernel_rfl))) (fun _ _ _ _ => rfl)) fa_nil))))))
def B_is_label : FnS := (fSeq (fIfS (bNot (fB (fCall F_is_text_of 4 (aCons (fVar 0) (aCons (fC (.str "abcdefghijklmnopqrstuvwxyz0123456789-")) (aCons (fC (.int 1)) (aCons (fC (.int 8)) aNil))))))) (fRet (fC (.bl false))) (fun ρ => some (.nx ρ))) (fRet (vAnd (vNot (fM (strB Txt.startswith) (fVar 0) (aCons (fC (.str "-")) aNil))) (vNot (fM (strB Txt.endswith) (fVar 0) (aCons (fC (.str "-")) aNil))))))
def F_is_label : List Dv → Option (Rs Dv) := runF 1 B_is_label
set_option maxHeartbeats 4000000 in
theorem fn_is_label {P : Program} {w : World} {K : PySem.W.Frag} {mg : Str → Option Value} {base : Heap} {f : Addr} {fd : FuncData} (Fn : Fun K "is_label" "is_label" s_is_label f fd) (h_is_text_of : Has P w K mg base "is_text_of" 1 ["thing", "signs", "least", "most"] F_is_text_of) {t_LABEL_SIGNS : Tok} (m_LABEL_SIGNS : mg "LABEL_SIGNS" = some (.str (Str.ofString "abcdefghijklmnopqrstuvwxyz0123456789-") t_LABEL_SIGNS)) {t_LONGEST_LABEL : Tok} (m_LONGEST_LABEL : mg "LONGEST_LABEL" = some (.int 8 t_LONGEST_LABEL)) :
    FnOk P w K mg base CX0 2 f fd ["thing"] (spF K F_is_label 1) :=
  fn_ok2 (k := 1) ["thing"] ["thing"] B_is_label (by kernel_rfl) (by kernel_rfl) Fn sc_is_label fun cdv A outer s H E hr => (fss_cons (fs_if (ft_not (ft_val (fe_callH (k' := 1) 1 ["thing", "signs", "least", "most"] F_is_text_of h_is_text_of hr (by decide) (glb (by kernel_rfl)) (fa_cons (fe_lv 0) (fa_cons (fe_gstr (glb (by kernel_rfl)) m_LABEL_SIGNS) (fa_cons fe_int (fa_cons (fe_gint (glb (by kernel_rfl)) m_LONGEST_LABEL) fa_nil))))))) (fss_one (fs_ret fe_bl)) fss_nil) (fss_one (fs_ret (fe_and (fe_not (fe_strM PySem.F.slot_str_startswith PySem.F.type_str_startswith mt_sw g_strB (fe_lv 0) (fa_cons fe_str fa_nil))) (fe_one (fe_not (fe_strM PySem.F.slot_str_endswith PySem.F.type_str_endswith mt_ew g_strB (fe_lv 0) (fa_cons fe_str fa_nil))))))))
def B_is_name : FnS := (fSeq (fIfS (bNot (fB (f1 (isiD tbStr) (fVar 0)))) (fRet (fC (.bl false))) (fun ρ => some (.nx ρ))) (fSeq (fSet 1 (fM (splitD) (fVar 0) (aCons (fC (.str ".")) aNil))) (fSeq (fIfS (bOr (fB (f2 gtD (fB1 lenD (aCons (fVar 1) aNil)) (fC (.int 5)))) (bNot (fB (fB1 allD (aCons (fComp [] (iSeq (fVar 1)) none (fCall F_is_label 1 (aCons (fVar 0) aNil))) aNil))))) (fRet (fC (.bl false))) (fun ρ => some (.nx ρ))) (fRet (vNot (fCall F_is_text_of 4 (aCons (f2 ixD (fVar 1) (f1 negD (fC (.int 1)))) (aCons (fC (.str "0123456789")) (aCons (fC (.int 1)) (aCons (fC (.int 8)) aNil))))))))))
def F_is_name : List Dv → Option (Rs Dv) := runF 2 B_is_name
set_option maxHeartbeats 4000000 in
theorem fn_is_name {P : Program} {w : World} {K : PySem.W.Frag} {mg : Str → Option Value} {base : Heap} {f : Addr} {fd : FuncData} (Fn : Fun K "is_name" "is_name" s_is_name f fd) (h_is_label : Has P w K mg base "is_label" 2 ["thing"] F_is_label) (h_is_text_of : Has P w K mg base "is_text_of" 1 ["thing", "signs", "least", "most"] F_is_text_of) (m_all : mg "all" = none) (m_isinstance : mg "isinstance" = none) (m_len : mg "len" = none) (m_str : mg "str" = none) {t_FIGURES : Tok} (m_FIGURES : mg "FIGURES" = some (.str (Str.ofString "0123456789") t_FIGURES)) {t_LONGEST_LABEL : Tok} (m_LONGEST_LABEL : mg "LONGEST_LABEL" = some (.int 8 t_LONGEST_LABEL)) {t_MOST_LABELS : Tok} (m_MOST_LABELS : mg "MOST_LABELS" = some (.int 5 t_MOST_LABELS)) :
    FnOk P w K mg base CX0 3 f fd ["thing"] (spF K F_is_name 1) :=
  fn_ok2 (k := 2) ["thing", "parts"] ["thing"] B_is_name (by kernel_rfl) (by kernel_rfl) Fn sc_is_name fun cdv A outer s H E hr => (fss_cons (fs_if (ft_not (ft_val (fe_isi (T := "str") kit_str bt_str (by decide +kernel) (by kernel_rfl) (glb (by kernel_rfl)) m_isinstance (glb (by kernel_rfl)) m_str (fe_lv 0)))) (fss_one (fs_ret fe_bl)) fss_nil) (fss_cons (fs_set 1 sc_is_name.nd (by kernel_rfl) (.inl (by kernel_rfl)) (fe_strM PySem.F.slot_str_split PySem.F.type_str_split mt_split g_split (fe_lv 0) (fa_cons fe_str fa_nil))) (fss_cons (fs_if (FW.ft (fw_or (ft_cmp op_gt (g_cmp _) (fe_len (glb (by kernel_rfl)) m_len (fa_cons (fe_lv 1) fa_nil)) (fe_gint (glb (by kernel_rfl)) m_MOST_LABELS) (nomark _)) (fw_or1 (ft_not (ft_val (fe_all rfl (glb (by kernel_rfl)) m_all (fa_cons (fe_comp (defScope s_is_name) ["thing", "parts"] [] (by kernel_rfl) (by kernel_rfl) ⟨by kernel_rfl, by kernel_rfl, by decide +kernel, by decide +kernel, by kernel_rfl, by decide +kernel, by decide +kernel, by decide +kernel⟩ (by kernel_rfl) rfl (fi_seq (fe_lv 1)) (fun _ _ _ _ => (fe_callH (k' := 2) 2 ["thing"] F_is_label h_is_label hr (by decide) (glb (by kernel_rfl)) (fa_cons (fe_lv 0) fa_nil))) (fun _ _ _ _ => rfl)) fa_nil))))))) (fss_one (fs_ret fe_bl)) fss_nil) (fss_one (fs_ret (fe_not (fe_callH (k' := 2) 1 ["thing", "signs", "least", "most"] F_is_text_of h_is_text_of hr (by decide) (glb (by kernel_rfl)) (fa_cons (fe_ix (fe_lv 1) (fe_neg fe_int)) (fa_cons (fe_gstr (glb (by kernel_rfl)) m_FIGURES) (fa_cons fe_int (fa_cons (fe_gint (glb (by kernel_rfl)) m_LONGEST_LABEL) fa_nil)))))))))))
def B_is_note_name : FnS := (fRet (fCall F_is_text_of 4 (aCons (fVar 0) (aCons (fC (.str "abcdefghijklmnopqrstuvwxyzABCDEFGHIJKLMNOPQRSTUVWXYZ0123456789-_")) (aCons (fC (.int 1)) (aCons (fC (.int 10)) aNil))))))
def F_is_note_name : List Dv → Option (Rs Dv) := runF 1 B_is_note_name
set_option maxHeartbeats 4000000 in
theorem fn_is_note_name {P : Program} {w : World} {K : PySem.W.Frag} {mg : Str → Option Value} {base : Heap} {f : Addr} {fd : FuncData} (Fn : Fun K "is_note_name" "is_note_name" s_is_note_name f fd) (h_is_text_of : Has P w K mg base "is_text_of" 1 ["thing", "signs", "least", "most"] F_is_text_of) {t_LONGEST_NOTE_NAME : Tok} (m_LONGEST_NOTE_NAME : mg "LONGEST_NOTE_NAME" = some (.int 10 t_LONGEST_NOTE_NAME)) {t_NOTE_NAME_SIGNS : Tok} (m_NOTE_NAME_SIGNS : mg "NOTE_NAME_SIGNS" = some (.str (Str.ofString "abcdefghijklmnopqrstuvwxyzABCDEFGHIJKLMNOPQRSTUVWXYZ0123456789-_") t_NOTE_NAME_SIGNS)) :
    FnOk P w K mg base CX0 2 f fd ["thing"] (spF K F_is_note_name 1) :=
  fn_ok2 (k := 1) ["thing"] ["thing"] B_is_note_name (by kernel_rfl) (by kernel_rfl) Fn sc_is_note_name fun cdv A outer s H E hr => (fss_one (fs_ret (fe_callH (k' := 1) 1 ["thing", "signs", "least", "most"] F_is_text_of h_is_text_of hr (by decide) (glb (by kernel_rfl)) (fa_cons (fe_lv 0) (fa_cons (fe_gstr (glb (by kernel_rfl)) m_NOTE_NAME_SIGNS) (fa_cons fe_int (fa_cons (fe_gint (glb (by kernel_rfl)) m_LONGEST_NOTE_NAME) fa_nil)))))))
def B_is_path : FnS := (fRet (vAnd (fCall F_is_text_of 4 (aCons (fVar 0) (aCons (fC (.str "abcdefghijklmnopqrstuvwxyz0123456789-_./")) (aCons (fC (.int 1)) (aCons (fC (.int 20)) aNil))))) (fM (strB Txt.startswith) (fVar 0) (aCons (fC (.str "/")) aNil))))
def F_is_path : List Dv → Option (Rs Dv) := runF 1 B_is_path
set_option maxHeartbeats 4000000 in
theorem fn_is_path {P : Program} {w : World} {K : PySem.W.Frag} {mg : Str → Option Value} {base : Heap} {f : Addr} {fd : FuncData} (Fn : Fun K "is_path" "is_path" s_is_path f fd) (h_is_text_of : Has P w K mg base "is_text_of" 1 ["thing", "signs", "least", "most"] F_is_text_of) {t_LONGEST_PATH : Tok} (m_LONGEST_PATH : mg "LONGEST_PATH" = some (.int 20 t_LONGEST_PATH)) {t_PATH_SIGNS : Tok} (m_PATH_SIGNS : mg "PATH_SIGNS" = some (.str (Str.ofString "abcdefghijklmnopqrstuvwxyz0123456789-_./") t_PATH_SIGNS)) :
    FnOk P w K mg base CX0 2 f fd ["thing"] (spF K F_is_path 1) :=
  fn_ok2 (k := 1) ["thing"] ["thing"] B_is_path (by kernel_rfl) (by kernel_rfl) Fn sc_is_path fun cdv A outer s H E hr => (fss_one (fs_ret (fe_and (fe_callH (k' := 1) 1 ["thing", "signs", "least", "most"] F_is_text_of h_is_text_of hr (by decide) (glb (by kernel_rfl)) (fa_cons (fe_lv 0) (fa_cons (fe_gstr (glb (by kernel_rfl)) m_PATH_SIGNS) (fa_cons fe_int (fa_cons (fe_gint (glb (by kernel_rfl)) m_LONGEST_PATH) fa_nil))))) (fe_one (fe_strM PySem.F.slot_str_startswith PySem.F.type_str_startswith mt_sw g_strB (fe_lv 0) (fa_cons fe_str fa_nil))))))
def B_is_reach : FnS := (fRet (vOr (f2 eqX (fVar 0) (fC (.str "any"))) (f2 eqX (fVar 0) (fC (.str "near")))))
def F_is_reach : List Dv → Option (Rs Dv) := runF 1 B_is_reach
set_option maxHeartbeats 4000000 in
theorem fn_is_reach {P : Program} {w : World} {K : PySem.W.Frag} {mg : Str → Option Value} {base : Heap} {f : Addr} {fd : FuncData} (Fn : Fun K "is_reach" "is_reach" s_is_reach f fd) :
    FnOk P w K mg base CX0 1 f fd ["thing"] (spF K F_is_reach 1) :=
  fn_ok2 (k := 0) ["thing"] ["thing"] B_is_reach (by kernel_rfl) (by kernel_rfl) Fn sc_is_reach fun cdv A outer s H E hr => (fss_one (fs_ret (fe_or (fe_cmp (o_eqX hr.units) g_eqX (fe_lv 0) fe_str (nomark _)) (fe_one (fe_cmp (o_eqX hr.units) g_eqX (fe_lv 0) fe_str (nomark _))))))
def B_is_tuple_of : FnS := (fRet (vAnd (f1 (isiD tbTup) (fVar 0)) (f2 eqX (fB1 lenD (aCons (fVar 0) aNil)) (fVar 1))))
def F_is_tuple_of : List Dv → Option (Rs Dv) := runF 2 B_is_tuple_of
set_option maxHeartbeats 4000000 in
theorem fn_is_tuple_of {P : Program} {w : World} {K : PySem.W.Frag} {mg : Str → Option Value} {base : Heap} {f : Addr} {fd : FuncData} (Fn : Fun K "is_tuple_of" "is_tuple_of" s_is_tuple_of f fd) (m_isinstance : mg "isinstance" = none) (m_len : mg "len" = none) (m_tuple : mg "tuple" = none) :
    FnOk P w K mg base CX0 1 f fd ["thing", "parts"] (spF K F_is_tuple_of 2) :=
  fn_ok2 (k := 0) ["thing", "parts"] ["thing", "parts"] B_is_tuple_of (by kernel_rfl) (by kernel_rfl) Fn sc_is_tuple_of fun cdv A outer s H E hr => (fss_one (fs_ret (fe_and (fe_isi (T := "tuple") kit_tup bt_tuple (by decide +kernel) (by kernel_rfl) (glb (by kernel_rfl)) m_isinstance (glb (by kernel_rfl)) m_tuple (fe_lv 0)) (fe_one (fe_cmp (o_eqX hr.units) g_eqX (fe_len (glb (by kernel_rfl)) m_len (fa_cons (fe_lv 0) fa_nil)) (fe_lv 1) (nomark _))))))
def B_is_worth : FnS := (fSeq (fIfS (bOr (bNot (fB (f1 (isiD tbStr) (fVar 0)))) (fB (f2 gtD (fB1 lenD (aCons (fVar 0) aNil)) (fC (.int 12))))) (fRet (fC (.bl false))) (fun ρ => some (.nx ρ))) (fRet (fB1 allD (aCons (fComp [] (iSeq (fVar 0)) none (vAnd (f2 leX (fC (.str "!")) (fVar 0)) (vAnd (f2 leX (fVar 0) (fC (.str "~"))) (f2 notInD (fVar 0) (fC (.str ";,=")))))) aNil))))
def F_is_worth : List Dv → Option (Rs Dv) := runF 1 B_is_worth
set_option maxHeartbeats 4000000 in
theorem fn_is_worth {P : Program} {w : World} {K : PySem.W.Frag} {mg : Str → Option Value} {base : Heap} {f : Addr} {fd : FuncData} (Fn : Fun K "is_worth" "is_worth" s_is_worth f fd) (m_all : mg "all" = none) (m_isinstance : mg "isinstance" = none) (m_len : mg "len" = none) (m_str : mg "str" = none) {t_LONGEST_WORTH : Tok} (m_LONGEST_WORTH : mg "LONGEST_WORTH" = some (.int 12 t_LONGEST_WORTH)) {t_NO_WORTH_SIGNS : Tok} (m_NO_WORTH_SIGNS : mg "NO_WORTH_SIGNS" = some (.str (Str.ofString ";,=") t_NO_WORTH_SIGNS)) :
    FnOk P w K mg base CX0 1 f fd ["thing"] (spF K F_is_worth 1) :=
  fn_ok2 (k := 0) ["thing"] ["thing"] B_is_worth (by kernel_rfl) (by kernel_rfl) Fn sc_is_worth fun cdv A outer s H E hr => (fss_cons (fs_if (FW.ft (fw_or (ft_not (ft_val (fe_isi (T := "str") kit_str bt_str (by decide +kernel) (by kernel_rfl) (glb (by kernel_rfl)) m_isinstance (glb (by kernel_rfl)) m_str (fe_lv 0)))) (fw_or1 (ft_cmp op_gt (g_cmp _) (fe_len (glb (by kernel_rfl)) m_len (fa_cons (fe_lv 0) fa_nil)) (fe_gint (glb (by kernel_rfl)) m_LONGEST_WORTH) (nomark _))))) (fss_one (fs_ret fe_bl)) fss_nil) (fss_one (fs_ret (fe_all rfl (glb (by kernel_rfl)) m_all (fa_cons (fe_comp (defScope s_is_worth) ["thing"] [] (by kernel_rfl) (by kernel_rfl) ⟨by kernel_rfl, by kernel_rfl, by decide +kernel, by decide +kernel, by kernel_rfl, by decide +kernel, by decide +kernel, by decide +kernel⟩ (by kernel_rfl) rfl (fi_seq (fe_lv 0)) (fun _ _ _ _ => (fe_and (fe_cmp o_leX g_leX fe_str (fe_lv 0) (nomark _)) (fe_and (fe_cmp o_leX g_leX (fe_lv 0) fe_str (nomark _)) (fe_one (fe_cmp o_notIn g_notIn (fe_lv 0) (fe_gstr (glb (by kernel_rfl)) m_NO_WORTH_SIGNS) (by kernel_rfl)))))) (fun _ _ _ _ => rfl)) fa_nil)))))
def B_is_given : FnS := (fSeq (fIfS (bNot (fB (fCall F_is_tuple_of 2 (aCons (fVar 0) (aCons (fC (.int 8)) aNil))))) (fRet (fC (.bl false))) (fun ρ => some (.nx ρ))) (fRet (fB1 allD (aCons (fLst (aCons (fCall F_is_note_name 1 (aCons (f2 ixD (fVar 0) (fC (.int 0))) aNil)) (aCons (fCall F_is_worth 1 (aCons (f2 ixD (fVar 0) (fC (.int 1))) aNil)) (aCons (vOr (f2 isN (f2 ixD (fVar 0) (fC (.int 2))) (fC .non)) (fCall F_is_name 1 (aCons (f2 ixD (fVar 0) (fC (.int 2))) aNil))) (aCons (vOr (f2 isN (f2 ixD (fVar 0) (fC (.int 3))) (fC .non)) (fCall F_is_path 1 (aCons (f2 ixD (fVar 0) (fC (.int 3))) aNil))) (aCons (fCall F_is_moment_or_none 1 (aCons (f2 ixD (fVar 0) (fC (.int 4))) aNil)) (aCons (fCall F_is_moment_or_none 1 (aCons (f2 ixD (fVar 0) (fC (.int 5))) aNil)) (aCons (f1 (isiD tbBool) (f2 ixD (fVar 0) (fC (.int 6)))) (aCons (fCall F_is_reach 1 (aCons (f2 ixD (fVar 0) (fC (.int 7))) aNil)) aNil))))))))) aNil))))
def F_is_given : List Dv → Option (Rs Dv) := runF 1 B_is_given
set_option maxHeartbeats 4000000 in
theorem fn_is_given {P : Program} {w : World} {K : PySem.W.Frag} {mg : Str → Option Value} {base : Heap} {f : Addr} {fd : FuncData} (Fn : Fun K "is_given" "is_given" s_is_given f fd) (h_is_moment_or_none : Has P w K mg base "is_moment_or_none" 3 ["thing"] F_is_moment_or_none) (h_is_name : Has P w K mg base "is_name" 3 ["thing"] F_is_name) (h_is_note_name : Has P w K mg base "is_note_name" 2 ["thing"] F_is_note_name) (h_is_path : Has P w K mg base "is_path" 2 ["thing"] F_is_path) (h_is_reach : Has P w K mg base "is_reach" 1 ["thing"] F_is_reach) (h_is_tuple_of : Has P w K mg base "is_tuple_of" 1 ["thing", "parts"] F_is_tuple_of) (h_is_worth : Has P w K mg base "is_worth" 1 ["thing"] F_is_worth) (m_all : mg "all" = none) (m_bool : mg "bool" = none) (m_isinstance : mg "isinstance" = none) {t_GIVEN_HOUSE : Tok} (m_GIVEN_HOUSE : mg "GIVEN_HOUSE" = some (.int 2 t_GIVEN_HOUSE)) {t_GIVEN_LASTS : Tok} (m_GIVEN_LASTS : mg "GIVEN_LASTS" = some (.int 5 t_GIVEN_LASTS)) {t_GIVEN_NAME : Tok} (m_GIVEN_NAME : mg "GIVEN_NAME" = some (.int 0 t_GIVEN_NAME)) {t_GIVEN_PARTS : Tok} (m_GIVEN_PARTS : mg "GIVEN_PARTS" = some (.int 8 t_GIVEN_PARTS)) {t_GIVEN_PATH : Tok} (m_GIVEN_PATH : mg "GIVEN_PATH" = some (.int 3 t_GIVEN_PATH)) {t_GIVEN_REACH : Tok} (m_GIVEN_REACH : mg "GIVEN_REACH" = some (.int 7 t_GIVEN_REACH)) {t_GIVEN_SAFE : Tok} (m_GIVEN_SAFE : mg "GIVEN_SAFE" = some (.int 6 t_GIVEN_SAFE)) {t_GIVEN_UNTIL : Tok} (m_GIVEN_UNTIL : mg "GIVEN_UNTIL" = some (.int 4 t_GIVEN_UNTIL)) {t_GIVEN_WORTH : Tok} (m_GIVEN_WORTH : mg "GIVEN_WORTH" = some (.int 1 t_GIVEN_WORTH)) :
    FnOk P w K mg base CX0 4 f fd ["thing"] (spF K F_is_given 1) :=
  fn_ok2 (k := 3) ["thing"] ["thing"] B_is_given (by kernel_rfl) (by kernel_rfl) Fn sc_is_given fun cdv A outer s H E hr => (fss_cons (fs_if (ft_not (ft_val (fe_callH (k' := 3) 1 ["thing", "parts"] F_is_tuple_of h_is_tuple_of hr (by decide) (glb (by kernel_rfl)) (fa_cons (fe_lv 0) (fa_cons (fe_gint (glb (by kernel_rfl)) m_GIVEN_PARTS) fa_nil))))) (fss_one (fs_ret fe_bl)) fss_nil) (fss_one (fs_ret (fe_all rfl (glb (by kernel_rfl)) m_all (fa_cons (fe_lst (fa_cons (fe_callH (k' := 3) 2 ["thing"] F_is_note_name h_is_note_name hr (by decide) (glb (by kernel_rfl)) (fa_cons (fe_ix (fe_lv 0) (fe_gint (glb (by kernel_rfl)) m_GIVEN_NAME)) fa_nil)) (fa_cons (fe_callH (k' := 3) 1 ["thing"] F_is_worth h_is_worth hr (by decide) (glb (by kernel_rfl)) (fa_cons (fe_ix (fe_lv 0) (fe_gint (glb (by kernel_rfl)) m_GIVEN_WORTH)) fa_nil)) (fa_cons (fe_or (fe_cmp op_isN g_isN (fe_ix (fe_lv 0) (fe_gint (glb (by kernel_rfl)) m_GIVEN_HOUSE)) fe_non (nomark _)) (fe_one (fe_callH (k' := 3) 3 ["thing"] F_is_name h_is_name hr (by decide) (glb (by kernel_rfl)) (fa_cons (fe_ix (fe_lv 0) (fe_gint (glb (by kernel_rfl)) m_GIVEN_HOUSE)) fa_nil)))) (fa_cons (fe_or (fe_cmp op_isN g_isN (fe_ix (fe_lv 0) (fe_gint (glb (by kernel_rfl)) m_GIVEN_PATH)) fe_non (nomark _)) (fe_one (fe_callH (k' := 3) 2 ["thing"] F_is_path h_is_path hr (by decide) (glb (by kernel_rfl)) (fa_cons (fe_ix (fe_lv 0) (fe_gint (glb (by kernel_rfl)) m_GIVEN_PATH)) fa_nil)))) (fa_cons (fe_callH (k' := 3) 3 ["thing"] F_is_moment_or_none h_is_moment_or_none hr (by decide) (glb (by kernel_rfl)) (fa_cons (fe_ix (fe_lv 0) (fe_gint (glb (by kernel_rfl)) m_GIVEN_UNTIL)) fa_nil)) (fa_cons (fe_callH (k' := 3) 3 ["thing"] F_is_moment_or_none h_is_moment_or_none hr (by decide) (glb (by kernel_rfl)) (fa_cons (fe_ix (fe_lv 0) (fe_gint (glb (by kernel_rfl)) m_GIVEN_LASTS)) fa_nil)) (fa_cons (fe_isi (T := "bool") kit_bool bt_bool (by decide +kernel) (by kernel_rfl) (glb (by kernel_rfl)) m_isinstance (glb (by kernel_rfl)) m_bool (fe_ix (fe_lv 0) (fe_gint (glb (by kernel_rfl)) m_GIVEN_SAFE))) (fa_cons (fe_callH (k' := 3) 1 ["thing"] F_is_reach h_is_reach hr (by decide) (glb (by kernel_rfl)) (fa_cons (fe_ix (fe_lv 0) (fe_gint (glb (by kernel_rfl)) m_GIVEN_REACH)) fa_nil)) fa_nil))))))))) fa_nil)))))
def B_need_given : FnS := (fIfS (bNot (fB (fCall F_is_given 1 (aCons (fVar 0) aNil)))) fNever (fun ρ => some (.nx ρ)))
def F_need_given : List Dv → Option (Rs Dv) := runF 1 B_need_given
set_option maxHeartbeats 4000000 in
theorem fn_need_given {P : Program} {w : World} {K : PySem.W.Frag} {mg : Str → Option Value} {base : Heap} {f : Addr} {fd : FuncData} (Fn : Fun K "need_given" "need_given" s_need_given f fd) (h_is_given : Has P w K mg base "is_given" 4 ["thing"] F_is_given) :
    FnOk P w K mg base CX0 5 f fd ["thing"] (spF K F_need_given 1) :=
  fn_ok2 (k := 4) ["thing"] ["thing"] B_need_given (by kernel_rfl) (by kernel_rfl) Fn sc_need_given fun cdv A outer s H E hr => (fss_one (fs_if (ft_not (ft_val (fe_callH (k' := 4) 4 ["thing"] F_is_given h_is_given hr (by decide) (glb (by kernel_rfl)) (fa_cons (fe_lv 0) fa_nil)))) (fss_one fs_never) fss_nil))
def B_given_text : FnS := (fSeq (fDrop (fCall F_need_given 1 (aCons (fVar 0) aNil))) (fOwn 1 (aCons (f2 addD (f2 addD (f2 ixD (fVar 0) (fC (.int 0))) (fC (.str "="))) (f2 ixD (fVar 0) (fC (.int 1)))) aNil) (oSeq (oIf (fB (f2 notN (f2 ixD (fVar 0) (fC (.int 2))) (fC .non))) (oApp (f2 addD (fC (.str "for ")) (f2 ixD (fVar 0) (fC (.int 2))))) oNil) (oSeq (oIf (fB (f2 notN (f2 ixD (fVar 0) (fC (.int 3))) (fC .non))) (oApp (f2 addD (fC (.str "under ")) (f2 ixD (fVar 0) (fC (.int 3))))) oNil) (oSeq (oIf (fB (f2 notN (f2 ixD (fVar 0) (fC (.int 4))) (fC .non))) (oApp (f2 addD (fC (.str "until ")) (fB1 strD (aCons (f2 ixD (fVar 0) (fC (.int 4))) aNil)))) oNil) (oSeq (oIf (fB (f2 notN (f2 ixD (fVar 0) (fC (.int 5))) (fC .non))) (oApp (f2 addD (fC (.str "lasts ")) (fB1 strD (aCons (f2 ixD (fVar 0) (fC (.int 5))) aNil)))) oNil) (oSeq (oIf (fB (f2 ixD (fVar 0) (fC (.int 6)))) (oApp (fC (.str "safe"))) oNil) (oSeq (oIf (fB (f2 eqX (f2 ixD (fVar 0) (fC (.int 7))) (fC (.str "near")))) (oApp (fC (.str "near"))) oNil) (oRet 1 (fM (joinD) (fC (.str "; ")) (aCons (fVar 1) aNil)))))))))))
def F_given_text : List Dv → Option (Rs Dv) := runF 2 B_given_text
set_option maxHeartbeats 4000000 in
theorem fn_given_text {P : Program} {w : World} {K : PySem.W.Frag} {mg : Str → Option Value} {base : Heap} {f : Addr} {fd : FuncData} (Fn : Fun K "given_text" "given_text" s_given_text f fd) (h_need_given : Has P w K mg base "need_given" 5 ["thing"] F_need_given) (m_str : mg "str" = none) {t_GIVEN_HOUSE : Tok} (m_GIVEN_HOUSE : mg "GIVEN_HOUSE" = some (.int 2 t_GIVEN_HOUSE)) {t_GIVEN_LASTS : Tok} (m_GIVEN_LASTS : mg "GIVEN_LASTS" = some (.int 5 t_GIVEN_LASTS)) {t_GIVEN_NAME : Tok} (m_GIVEN_NAME : mg "GIVEN_NAME" = some (.int 0 t_GIVEN_NAME)) {t_GIVEN_PATH : Tok} (m_GIVEN_PATH : mg "GIVEN_PATH" = some (.int 3 t_GIVEN_PATH)) {t_GIVEN_REACH : Tok} (m_GIVEN_REACH : mg "GIVEN_REACH" = some (.int 7 t_GIVEN_REACH)) {t_GIVEN_SAFE : Tok} (m_GIVEN_SAFE : mg "GIVEN_SAFE" = some (.int 6 t_GIVEN_SAFE)) {t_GIVEN_UNTIL : Tok} (m_GIVEN_UNTIL : mg "GIVEN_UNTIL" = some (.int 4 t_GIVEN_UNTIL)) {t_GIVEN_WORTH : Tok} (m_GIVEN_WORTH : mg "GIVEN_WORTH" = some (.int 1 t_GIVEN_WORTH)) :
    FnOk P w K mg base CX0 6 f fd ["given"] (spF K F_given_text 1) :=
  fn_ok2 (k := 5) ["given", "parts"] ["given"] B_given_text (by kernel_rfl) (by kernel_rfl) Fn sc_given_text fun cdv A outer s H E hr => (fss_cons (fs_expr (fe_callH (k' := 5) 5 ["thing"] F_need_given h_need_given hr (by decide) (glb (by kernel_rfl)) (fa_cons (fe_lv 0) fa_nil))) (fss_own (i := 1) sc_given_text.nd (by kernel_rfl) (.inl (by kernel_rfl)) (fa_cons (fe_op o_add g_add (fe_op o_add g_add (fe_ix (fe_lv 0) (fe_gint (glb (by kernel_rfl)) m_GIVEN_NAME)) fe_str) (fe_ix (fe_lv 0) (fe_gint (glb (by kernel_rfl)) m_GIVEN_WORTH))) fa_nil) (fos_cons (fo_if rfl (ft_cmp op_notN g_notN (fe_ix (fe_lv 0) (fe_gint (glb (by kernel_rfl)) m_GIVEN_HOUSE)) fe_non (nomark _)) (fos_one (fo_app rfl (pe_var (by kernel_rfl) (.inl (by kernel_rfl)) (by kernel_rfl) (by kernel_rfl)) (fe_op o_add g_add fe_str (fe_ix (fe_lv 0) (fe_gint (glb (by kernel_rfl)) m_GIVEN_HOUSE))))) fos_nil) (fos_cons (fo_if rfl (ft_cmp op_notN g_notN (fe_ix (fe_lv 0) (fe_gint (glb (by kernel_rfl)) m_GIVEN_PATH)) fe_non (nomark _)) (fos_one (fo_app rfl (pe_var (by kernel_rfl) (.inl (by kernel_rfl)) (by kernel_rfl) (by kernel_rfl)) (fe_op o_add g_add fe_str (fe_ix (fe_lv 0) (fe_gint (glb (by kernel_rfl)) m_GIVEN_PATH))))) fos_nil) (fos_cons (fo_if rfl (ft_cmp op_notN g_notN (fe_ix (fe_lv 0) (fe_gint (glb (by kernel_rfl)) m_GIVEN_UNTIL)) fe_non (nomark _)) (fos_one (fo_app rfl (pe_var (by kernel_rfl) (.inl (by kernel_rfl)) (by kernel_rfl) (by kernel_rfl)) (fe_op o_add g_add fe_str (fe_strI (glb (by kernel_rfl)) m_str (fa_cons (fe_ix (fe_lv 0) (fe_gint (glb (by kernel_rfl)) m_GIVEN_UNTIL)) fa_nil))))) fos_nil) (fos_cons (fo_if rfl (ft_cmp op_notN g_notN (fe_ix (fe_lv 0) (fe_gint (glb (by kernel_rfl)) m_GIVEN_LASTS)) fe_non (nomark _)) (fos_one (fo_app rfl (pe_var (by kernel_rfl) (.inl (by kernel_rfl)) (by kernel_rfl) (by kernel_rfl)) (fe_op o_add g_add fe_str (fe_strI (glb (by kernel_rfl)) m_str (fa_cons (fe_ix (fe_lv 0) (fe_gint (glb (by kernel_rfl)) m_GIVEN_LASTS)) fa_nil))))) fos_nil) (fos_cons (fo_if rfl (ft_val (fe_ix (fe_lv 0) (fe_gint (glb (by kernel_rfl)) m_GIVEN_SAFE))) (fos_one (fo_app rfl (pe_var (by kernel_rfl) (.inl (by kernel_rfl)) (by kernel_rfl) (by kernel_rfl)) fe_str)) fos_nil) (fos_cons (fo_if rfl (ft_cmp (o_eqX hr.units) g_eqX (fe_ix (fe_lv 0) (fe_gint (glb (by kernel_rfl)) m_GIVEN_REACH)) fe_str (nomark _)) (fos_one (fo_app rfl (pe_var (by kernel_rfl) (.inl (by kernel_rfl)) (by kernel_rfl) (by kernel_rfl)) fe_str)) fos_nil) (fos_one (fo_ret (fe_strM PySem.F.slot_str_join PySem.F.type_str_join mt_join g_join fe_str (fa_cons (fe_lv 1) fa_nil))))))))))))
def B_is_written_moment : FnS := (fRet (fCall F_is_text_of 4 (aCons (fVar 0) (aCons (fC (.str "0123456789")) (aCons (fC (.int 1)) (aCons (fC (.int 4)) aNil))))))
def F_is_written_moment : List Dv → Option (Rs Dv) := runF 1 B_is_written_moment
set_option maxHeartbeats 4000000 in
theorem fn_is_written_moment {P : Program} {w : World} {K : PySem.W.Frag} {mg : Str → Option Value} {base : Heap} {f : Addr} {fd : FuncData} (Fn : Fun K "is_written_moment" "is_written_moment" s_is_written_moment f fd) (h_is_text_of : Has P w K mg base "is_text_of" 1 ["thing", "signs", "least", "most"] F_is_text_of) {t_FIGURES : Tok} (m_FIGURES : mg "FIGURES" = some (.str (Str.ofString "0123456789") t_FIGURES)) {t_MOST_FIGURES : Tok} (m_MOST_FIGURES : mg "MOST_FIGURES" = some (.int 4 t_MOST_FIGURES)) :
    FnOk P w K mg base CX0 2 f fd ["text"] (spF K F_is_written_moment 1) :=
  fn_ok2 (k := 1) ["text"] ["text"] B_is_written_moment (by kernel_rfl) (by kernel_rfl) Fn sc_is_written_moment fun cdv A outer s H E hr => (fss_one (fs_ret (fe_callH (k' := 1) 1 ["thing", "signs", "least", "most"] F_is_text_of h_is_text_of hr (by decide) (glb (by kernel_rfl)) (fa_cons (fe_lv 0) (fa_cons (fe_gstr (glb (by kernel_rfl)) m_FIGURES) (fa_cons fe_int (fa_cons (fe_gint (glb (by kernel_rfl)) m_MOST_FIGURES) fa_nil)))))))
def B_what_is_told : FnS := (fSeq (fIfS (fB (f2 eqX (fVar 0) (fC (.str "safe")))) (fRet (fTup (aCons (fC (.int 6)) (aCons (fC (.bl true)) aNil)))) (fun ρ => some (.nx ρ))) (fSeq (fIfS (fB (fCall F_is_reach 1 (aCons (fVar 0) aNil))) (fRet (fTup (aCons (fC (.int 7)) (aCons (fVar 0) aNil)))) (fun ρ => some (.nx ρ))) (fSeq (fSet 1 (fM (partD) (fVar 0) (aCons (fC (.str " ")) aNil))) (fSeq (fSet 2 (f2 ixD (fVar 1) (fC (.int 0)))) (fSeq (fSet 3 (f2 ixD (fVar 1) (fC (.int 2)))) (fSeq (fIfS (bAnd (fB (f2 eqX (fVar 2) (fC (.str "for")))) (fB (fCall F_is_name 1 (aCons (fVar 3) aNil)))) (fRet (fTup (aCons (fC (.int 2)) (aCons (fVar 3) aNil)))) (fun ρ => some (.nx ρ))) (fSeq (fIfS (bAnd (fB (f2 eqX (fVar 2) (fC (.str "under")))) (fB (fCall F_is_path 1 (aCons (fVar 3) aNil)))) (fRet (fTup (aCons (fC (.int 3)) (aCons (fVar 3) aNil)))) (fun ρ => some (.nx ρ))) (fSeq (fIfS (bAnd (fB (f2 eqX (fVar 2) (fC (.str "until")))) (fB (fCall F_is_written_moment 1 (aCons (fVar 3) aNil)))) (fRet (fTup (aCons (fC (.int 4)) (aCons (fB1 intD (aCons (fVar 3) aNil)) aNil)))) (fun ρ => some (.nx ρ))) (fSeq (fIfS (bAnd (fB (f2 eqX (fVar 2) (fC (.str "lasts")))) (fB (fCall F_is_written_moment 1 (aCons (fVar 3) aNil)))) (fRet (fTup (aCons (fC (.int 5)) (aCons (fB1 intD (aCons (fVar 3) aNil)) aNil)))) (fun ρ => some (.nx ρ))) (fRet (fC .non)))))))))))
def F_what_is_told : List Dv → Option (Rs Dv) := runF 4 B_what_is_told
set_option maxHeartbeats 4000000 in
theorem fn_what_is_told {P : Program} {w : World} {K : PySem.W.Frag} {mg : Str → Option Value} {base : Heap} {f : Addr} {fd : FuncData} (Fn : Fun K "what_is_told" "what_is_told" s_what_is_told f fd) (h_is_name : Has P w K mg base "is_name" 3 ["thing"] F_is_name) (h_is_path : Has P w K mg base "is_path" 2 ["thing"] F_is_path) (h_is_reach : Has P w K mg base "is_reach" 1 ["thing"] F_is_reach) (h_is_written_moment : Has P w K mg base "is_written_moment" 2 ["text"] F_is_written_moment) (m_int : mg "int" = none) {t_GIVEN_HOUSE : Tok} (m_GIVEN_HOUSE : mg "GIVEN_HOUSE" = some (.int 2 t_GIVEN_HOUSE)) {t_GIVEN_LASTS : Tok} (m_GIVEN_LASTS : mg "GIVEN_LASTS" = some (.int 5 t_GIVEN_LASTS)) {t_GIVEN_PATH : Tok} (m_GIVEN_PATH : mg "GIVEN_PATH" = some (.int 3 t_GIVEN_PATH)) {t_GIVEN_REACH : Tok} (m_GIVEN_REACH : mg "GIVEN_REACH" = some (.int 7 t_GIVEN_REACH)) {t_GIVEN_SAFE : Tok} (m_GIVEN_SAFE : mg "GIVEN_SAFE" = some (.int 6 t_GIVEN_SAFE)) {t_GIVEN_UNTIL : Tok} (m_GIVEN_UNTIL : mg "GIVEN_UNTIL" = some (.int 4 t_GIVEN_UNTIL)) :
    FnOk P w K mg base CX0 4 f fd ["part"] (spF K F_what_is_told 1) :=
  fn_ok2 (k := 3) ["part", "pieces", "word", "rest"] ["part"] B_what_is_told (by kernel_rfl) (by kernel_rfl) Fn sc_what_is_told fun cdv A outer s H E hr => (fss_cons (fs_if (ft_cmp (o_eqX hr.units) g_eqX (fe_lv 0) fe_str (nomark _)) (fss_one (fs_ret (fe_tup (fa_cons (fe_gint (glb (by kernel_rfl)) m_GIVEN_SAFE) (fa_cons fe_bl fa_nil))))) fss_nil) (fss_cons (fs_if (ft_val (fe_callH (k' := 3) 1 ["thing"] F_is_reach h_is_reach hr (by decide) (glb (by kernel_rfl)) (fa_cons (fe_lv 0) fa_nil))) (fss_one (fs_ret (fe_tup (fa_cons (fe_gint (glb (by kernel_rfl)) m_GIVEN_REACH) (fa_cons (fe_lv 0) fa_nil))))) fss_nil) (fss_cons (fs_set 1 sc_what_is_told.nd (by kernel_rfl) (.inl (by kernel_rfl)) (fe_strM PySem.F.slot_str_partition PySem.F.type_str_partition mt_part g_part (fe_lv 0) (fa_cons fe_str fa_nil))) (fss_cons (fs_set 2 sc_what_is_told.nd (by kernel_rfl) (.inl (by kernel_rfl)) (fe_ix (fe_lv 1) fe_int)) (fss_cons (fs_set 3 sc_what_is_told.nd (by kernel_rfl) (.inl (by kernel_rfl)) (fe_ix (fe_lv 1) fe_int)) (fss_cons (fs_if (FW.ft (fw_and (ft_cmp (o_eqX hr.units) g_eqX (fe_lv 2) fe_str (nomark _)) (fw_and1 (ft_val (fe_callH (k' := 3) 3 ["thing"] F_is_name h_is_name hr (by decide) (glb (by kernel_rfl)) (fa_cons (fe_lv 3) fa_nil)))))) (fss_one (fs_ret (fe_tup (fa_cons (fe_gint (glb (by kernel_rfl)) m_GIVEN_HOUSE) (fa_cons (fe_lv 3) fa_nil))))) fss_nil) (fss_cons (fs_if (FW.ft (fw_and (ft_cmp (o_eqX hr.units) g_eqX (fe_lv 2) fe_str (nomark _)) (fw_and1 (ft_val (fe_callH (k' := 3) 2 ["thing"] F_is_path h_is_path hr (by decide) (glb (by kernel_rfl)) (fa_cons (fe_lv 3) fa_nil)))))) (fss_one (fs_ret (fe_tup (fa_cons (fe_gint (glb (by kernel_rfl)) m_GIVEN_PATH) (fa_cons (fe_lv 3) fa_nil))))) fss_nil) (fss_cons (fs_if (FW.ft (fw_and (ft_cmp (o_eqX hr.units) g_eqX (fe_lv 2) fe_str (nomark _)) (fw_and1 (ft_val (fe_callH (k' := 3) 2 ["text"] F_is_written_moment h_is_written_moment hr (by decide) (glb (by kernel_rfl)) (fa_cons (fe_lv 3) fa_nil)))))) (fss_one (fs_ret (fe_tup (fa_cons (fe_gint (glb (by kernel_rfl)) m_GIVEN_UNTIL) (fa_cons (fe_int_s (glb (by kernel_rfl)) m_int (fa_cons (fe_lv 3) fa_nil)) fa_nil))))) fss_nil) (fss_cons (fs_if (FW.ft (fw_and (ft_cmp (o_eqX hr.units) g_eqX (fe_lv 2) fe_str (nomark _)) (fw_and1 (ft_val (fe_callH (k' := 3) 2 ["text"] F_is_written_moment h_is_written_moment hr (by decide) (glb (by kernel_rfl)) (fa_cons (fe_lv 3) fa_nil)))))) (fss_one (fs_ret (fe_tup (fa_cons (fe_gint (glb (by kernel_rfl)) m_GIVEN_LASTS) (fa_cons (fe_int_s (glb (by kernel_rfl)) m_int (fa_cons (fe_lv 3) fa_nil)) fa_nil))))) fss_nil) (fss_one (fs_ret fe_non)))))))))))
def b_read_given_0 : FnO2 := (oSeq (oSet 5 (fCall F_what_is_told 1 (aCons (fVar 4) aNil))) (oIf (fB (f2 notN (fVar 5) (fC .non))) (oStore (f2 ixD (fVar 5) (fC (.int 0))) (f2 ixD (fVar 5) (fC (.int 1)))) oNil))
def B_read_given : FnS := (fSeq (fIfS (bNot (fB (f1 (isiD tbStr) (fVar 0)))) fNever (fun ρ => some (.nx ρ))) (fSeq (fSet 1 (fCompG 1 [] (iSeq (fM (splitD) (fVar 0) (aCons (fC (.str ";")) aNil))) (gN 0) none (fM (stripD) (fVar 0) (aCons (fC (.str " ")) aNil)))) (fSeq (fSet 2 (fM (partD) (f2 ixD (fVar 1) (fC (.int 0))) (aCons (fC (.str "=")) aNil))) (fSeq (fIfS (bOr (fB (f2 eqX (f2 ixD (fVar 2) (fC (.int 1))) (fC (.str "")))) (bOr (bNot (fB (fCall F_is_note_name 1 (aCons (f2 ixD (fVar 2) (fC (.int 0))) aNil)))) (bNot (fB (fCall F_is_worth 1 (aCons (f2 ixD (fVar 2) (fC (.int 2))) aNil)))))) fNever (fun ρ => some (.nx ρ))) (fOwn 3 (aCons (f2 ixD (fVar 2) (fC (.int 0))) (aCons (f2 ixD (fVar 2) (fC (.int 2))) (aCons (fC .non) (aCons (fC .non) (aCons (fC .non) (aCons (fC .non) (aCons (fC (.bl false)) (aCons (fC (.str "any")) aNil)))))))) (oSeq (oFor 4 [4, 5] (iSeq (fCut (fVar 1) (oSome (fC (.int 1))) oNone)) b_read_given_0) (oRet 3 (fB1 tupleD (aCons (fVar 3) aNil)))))))))
def F_read_given : List Dv → Option (Rs Dv) := runF 6 B_read_given
set_option maxHeartbeats 4000000 in
theorem fn_read_given {P : Program} {w : World} {K : PySem.W.Frag} {mg : Str → Option Value} {base : Heap} {f : Addr} {fd : FuncData} (Fn : Fun K "read_given" "read_given" s_read_given f fd) (h_is_note_name : Has P w K mg base "is_note_name" 2 ["thing"] F_is_note_name) (h_is_worth : Has P w K mg base "is_worth" 1 ["thing"] F_is_worth) (h_what_is_told : Has P w K mg base "what_is_told" 4 ["part"] F_what_is_told) (m_isinstance : mg "isinstance" = none) (m_str : mg "str" = none) (m_tuple : mg "tuple" = none) :
    FnOk P w K mg base CX0 5 f fd ["text"] (spF K F_read_given 1) :=
  fn_ok2 (k := 4) ["text", "parts", "first", "given", "part", "told"] ["text"] B_read_given (by kernel_rfl) (by kernel_rfl) Fn sc_read_given fun cdv A outer s H E hr => (fss_cons (fs_if (ft_not (ft_val (fe_isi (T := "str") kit_str bt_str (by decide +kernel) (by kernel_rfl) (glb (by kernel_rfl)) m_isinstance (glb (by kernel_rfl)) m_str (fe_lv 0)))) (fss_one fs_never) fss_nil) (fss_cons (fs_setC 1 sc_read_given.nd (by kernel_rfl) (.inl (by kernel_rfl)) (.inl rfl) (defScope s_read_given) ["text", "parts", "first", "given", "part", "told"] ["part"] [0] [] (by kernel_rfl) (by kernel_rfl) ⟨by kernel_rfl, by decide +kernel, by decide +kernel, by decide +kernel, by decide +kernel⟩ (by kernel_rfl) rfl (back1 _) (FI.toG (fi_seq (fe_strM PySem.F.slot_str_split PySem.F.type_str_split mt_split g_split (fe_lv 0) (fa_cons fe_str fa_nil)))) (fun _ _ _ _ => fg_name 0 (show (["part"] : List Str).Nodup by decide +kernel) (by kernel_rfl) (.inl (by kernel_rfl)) (.inr (by kernel_rfl))) (fun _ _ _ _ => (fe_strM PySem.F.slot_str_strip PySem.F.type_str_strip mt_strip g_strip (fe_lv 0) (fa_cons fe_str fa_nil))) (fun _ _ _ _ => rfl)) (fss_cons (fs_set 2 sc_read_given.nd (by kernel_rfl) (.inl (by kernel_rfl)) (fe_strM PySem.F.slot_str_partition PySem.F.type_str_partition mt_part g_part (fe_ix (fe_lv 1) fe_int) (fa_cons fe_str fa_nil))) (fss_cons (fs_if (FW.ft (fw_or (ft_cmp (o_eqX hr.units) g_eqX (fe_ix (fe_lv 2) fe_int) fe_str (nomark _)) (fw_or (ft_not (ft_val (fe_callH (k' := 4) 2 ["thing"] F_is_note_name h_is_note_name hr (by decide) (glb (by kernel_rfl)) (fa_cons (fe_ix (fe_lv 2) fe_int) fa_nil)))) (fw_or1 (ft_not (ft_val (fe_callH (k' := 4) 1 ["thing"] F_is_worth h_is_worth hr (by decide) (glb (by kernel_rfl)) (fa_cons (fe_ix (fe_lv 2) fe_int) fa_nil)))))))) (fss_one fs_never) fss_nil) (fss_own (i := 3) sc_read_given.nd (by kernel_rfl) (.inl (by kernel_rfl)) (fa_cons (fe_ix (fe_lv 2) fe_int) (fa_cons (fe_ix (fe_lv 2) fe_int) (fa_cons fe_non (fa_cons fe_non (fa_cons fe_non (fa_cons fe_non (fa_cons fe_bl (fa_cons fe_str fa_nil)))))))) (fos_cons (fo_for rfl 4 [4, 5] (by decide) PassesOwn.never rfl (fi_seq (fe_cut (fe_lv 1) (fo_some fe_int) fo_none)) (pg_name (i := 4) sc_read_given.nd (by kernel_rfl) (.inl (by kernel_rfl)) (.inl rfl)) (fos_cons (fo_set rfl 5 (by decide) sc_read_given.nd (by kernel_rfl) (.inl (by kernel_rfl)) (fe_callH (k' := 4) 4 ["part"] F_what_is_told h_what_is_told hr (by decide) (glb (by kernel_rfl)) (fa_cons (fe_lv 4) fa_nil))) (fos_one (fo_if rfl (ft_cmp op_notN g_notN (fe_lv 5) fe_non (nomark _)) (fos_one (fo_store rfl (pe_var (by kernel_rfl) (.inl (by kernel_rfl)) (by kernel_rfl) (by kernel_rfl)) (fe_ix (fe_lv 5) fe_int) (fe_ix (fe_lv 5) fe_int))) fos_nil)))) (fos_one (fo_ret (fe_tuple (glb (by kernel_rfl)) m_tuple (fa_cons (fe_lv 3) fa_nil))))))))))
def v_law_0 : FnE := (fCall F__law_given 3 (aCons (fVar 0) (aCons (fC (.int 0)) (aCons (fCall F__law_name 2 (aCons (fVar 0) (aCons (fC (.int 20)) aNil))) aNil))))
def v_law_1 : FnE := (fCall F__law_given 3 (aCons (fVar 0) (aCons (fC (.int 30)) (aCons (fCall F__law_name 2 (aCons (fVar 0) (aCons (fC (.int 50)) aNil))) aNil))))
def v_law_2 : FnE := (fCall F_given_text 1 (aCons (fVar 1) aNil))
def c_law_0 : FnB := (bOr (fB (f2 neX (fCall F_read_given 1 (aCons (fVar 3) aNil)) (fVar 1))) (bOr (fB (f2 neX (fVar 3) (fCall F__law_text 1 (aCons (fVar 1) aNil)))) (bNot (fB (fCall F_is_given 1 (aCons (fCall F_read_given 1 (aCons (fVar 3) aNil)) aNil))))))
def c_law_1 : FnB := (fB (f2 neX (f2 eqX (fCall F_given_text 1 (aCons (fVar 2) aNil)) (fVar 3)) (f2 eqX (fVar 2) (fVar 1))))
def v_law_3 : FnE := (fM (splitD) (fVar 3) (aCons (fC (.str "; ")) aNil))
def v_law_4 : FnE := (f2 addT (fCutT (fVar 4) oNone (oSome (fC (.int 1)))) (fBackL (fCutT (fVar 4) (oSome (fC (.int 1))) oNone)))
def c_law_2 : FnB := (bOr (fB (f2 neX (fCall F_read_given 1 (aCons (fM (joinD) (fC (.str ";")) (aCons (fVar 5) aNil)) aNil)) (fVar 1))) (fB (f2 neX (fCall F_read_given 1 (aCons (fM (joinD) (fC (.str "  ;  ")) (aCons (fVar 4) aNil)) aNil)) (fVar 1))))
def v_law_5 : FnE := (f2 addT (fC (.int 1)) (fCall F__law_drawn 3 (aCons (fVar 0) (aCons (fC (.int 60)) (aCons (fB1 lenD (aCons (fVar 4) aNil)) aNil)))))
def v_law_6 : FnE := (fLst (aCons (fC (.str "x=y")) (aCons (fC (.str "until")) (aCons (fC (.str "for A")) (aCons (fC (.str "under b")) (aCons (fC (.str "lasts 99999")) (aCons (fC (.str "SAFE")) (aCons (fC (.str "")) (aCons (fC (.str "safe near")) (aCons (fC (.str "until  7")) aNil))))))))))
def v_law_7 : FnE := (f2 ixD (fVar 7) (fCall F__law_drawn 3 (aCons (fVar 0) (aCons (fC (.int 61)) (aCons (fC (.int 9)) aNil)))))
def c_law_3 : FnB := (fB (f2 neX (fCall F_read_given 1 (aCons (fM (joinD) (fC (.str "; ")) (aCons (f2 addT (f2 addT (fCutT (fVar 4) oNone (oSome (fVar 6))) (fLst (aCons (fVar 8) aNil))) (fCutT (fVar 4) (oSome (fVar 6)) oNone)) aNil)) aNil)) (fVar 1)))
def v_law_8 : FnE := (f2 addT (f2 addT (fCutT (fVar 4) oNone (oSome (fC (.int 1)))) (fLst (aCons (fC (.str "until 17")) (aCons (fC (.str "under /q")) (aCons (fC (.str "lasts 4")) (aCons (fC (.str "for q.r")) aNil)))))) (fCutT (fVar 4) (oSome (fC (.int 1))) oNone))
def v_law_9 : FnE := (fCall F_read_given 1 (aCons (fM (joinD) (fC (.str "; ")) (aCons (fVar 9) aNil)) aNil))
def b_law_0 : FnO2 := (oApp (fIf (fB (f2 isN (fVar 12) (fC .non))) (fVar 13) (fVar 12)))
def B_law : FnS := (fSeq (fSet 1 v_law_0) (fSeq (fSet 2 v_law_1) (fSeq (fSet 3 v_law_2) (fSeq (fIfS c_law_0 (fRet (fC (.bl false))) (fun ρ => some (.nx ρ))) (fSeq (fIfS c_law_1 (fRet (fC (.bl false))) (fun ρ => some (.nx ρ))) (fSeq (fSet 4 v_law_3) (fSeq (fSet 5 v_law_4) (fSeq (fIfS c_law_2 (fRet (fC (.bl false))) (fun ρ => some (.nx ρ))) (fSeq (fSet 6 v_law_5) (fSeq (fSet 7 v_law_6) (fSeq (fSet 8 v_law_7) (fSeq (fIfS c_law_3 (fRet (fC (.bl false))) (fun ρ => some (.nx ρ))) (fSeq (fSet 9 v_law_8) (fSeq (fSet 10 v_law_9) (fOwn 11 aNil (oSeq (oForP 12 13 [12, 13] (fun ρ => bnd ((aCons (fCutT (fVar 1) (oSome (fC (.int 2))) (oSome (fC (.int 6)))) (aCons (fTup (aCons (fC (.str "q.r")) (aCons (fC (.str "/q")) (aCons (fC (.int 17)) (aCons (fC (.int 4)) aNil))))) aNil)) ρ) zipD) b_law_0) (oRet 11 (f2 eqX (fVar 10) (f2 addT (f2 addT (fCutT (fVar 1) oNone (oSome (fC (.int 2)))) (fB1 tupleD (aCons (fVar 11) aNil))) (fCutT (fVar 1) (oSome (fC (.int 6))) oNone))))))))))))))))))))
def F_law : List Dv → Option (Rs Dv) := runF 14 B_law
set_option maxHeartbeats 4000000 in
theorem fn_law {P : Program} {w : World} {K : PySem.W.Frag} {mg : Str → Option Value} {base : Heap} {f : Addr} {fd : FuncData} (Fn : Fun K "law" "law" s_law f fd) (h__law_drawn : Has P w K mg base "_law_drawn" 2 ["_law_script", "_law_k", "_law_many"] F__law_drawn) (h__law_given : Has P w K mg base "_law_given" 4 ["_law_script", "_law_at", "_law_house"] F__law_given) (h__law_name : Has P w K mg base "_law_name" 3 ["_law_script", "_law_at"] F__law_name) (h__law_text : Has P w K mg base "_law_text" 1 ["_law_given_here"] F__law_text) (h_given_text : Has P w K mg base "given_text" 6 ["given"] F_given_text) (h_is_given : Has P w K mg base "is_given" 4 ["thing"] F_is_given) (h_read_given : Has P w K mg base "read_given" 5 ["text"] F_read_given) (m_len : mg "len" = none) (m_tuple : mg "tuple" = none) (m_zip : mg "zip" = none) :
    FnOk P w K mg base CX0 7 f fd ["_law_script"] (spF K F_law 1) :=
  fn_ok2 (k := 6) ["_law_script", "_law_given_here", "_law_other", "_law_text_here", "_law_parts", "_law_turned", "_law_at", "_law_some", "_law_odd", "_law_ahead", "_law_again", "_law_due", "_law_mine", "_law_old"] ["_law_script"] B_law (by kernel_rfl) (by kernel_rfl) Fn sc_law fun cdv A outer s H E hr => (fss_cons (fs_set 1 sc_law.nd (by kernel_rfl) (.inl (by kernel_rfl)) (fe_callH (k' := 6) 4 ["_law_script", "_law_at", "_law_house"] F__law_given h__law_given hr (by decide) (glb (by kernel_rfl)) (fa_cons (fe_lv 0) (fa_cons fe_int (fa_cons (fe_callH (k' := 6) 3 ["_law_script", "_law_at"] F__law_name h__law_name hr (by decide) (glb (by kernel_rfl)) (fa_cons (fe_lv 0) (fa_cons fe_int fa_nil))) fa_nil))))) (fss_cons (fs_set 2 sc_law.nd (by kernel_rfl) (.inl (by kernel_rfl)) (fe_callH (k' := 6) 4 ["_law_script", "_law_at", "_law_house"] F__law_given h__law_given hr (by decide) (glb (by kernel_rfl)) (fa_cons (fe_lv 0) (fa_cons fe_int (fa_cons (fe_callH (k' := 6) 3 ["_law_script", "_law_at"] F__law_name h__law_name hr (by decide) (glb (by kernel_rfl)) (fa_cons (fe_lv 0) (fa_cons fe_int fa_nil))) fa_nil))))) (fss_cons (fs_set 3 sc_law.nd (by kernel_rfl) (.inl (by kernel_rfl)) (fe_callH (k' := 6) 6 ["given"] F_given_text h_given_text hr (by decide) (glb (by kernel_rfl)) (fa_cons (fe_lv 1) fa_nil))) (fss_cons (fs_if (FW.ft (fw_or (ft_cmp (o_neX hr.units) g_neX (fe_callH (k' := 6) 5 ["text"] F_read_given h_read_given hr (by decide) (glb (by kernel_rfl)) (fa_cons (fe_lv 3) fa_nil)) (fe_lv 1) (nomark _)) (fw_or (ft_cmp (o_neX hr.units) g_neX (fe_lv 3) (fe_callH (k' := 6) 1 ["_law_given_here"] F__law_text h__law_text hr (by decide) (glb (by kernel_rfl)) (fa_cons (fe_lv 1) fa_nil)) (nomark _)) (fw_or1 (ft_not (ft_val (fe_callH (k' := 6) 4 ["thing"] F_is_given h_is_given hr (by decide) (glb (by kernel_rfl)) (fa_cons (fe_callH (k' := 6) 5 ["text"] F_read_given h_read_given hr (by decide) (glb (by kernel_rfl)) (fa_cons (fe_lv 3) fa_nil)) fa_nil)))))))) (fss_one (fs_ret fe_bl)) fss_nil) (fss_cons (fs_if (ft_cmp (o_neX hr.units) g_neX (fe_cmp (o_eqX hr.units) g_eqX (fe_callH (k' := 6) 6 ["given"] F_given_text h_given_text hr (by decide) (glb (by kernel_rfl)) (fa_cons (fe_lv 2) fa_nil)) (fe_lv 3) (nomark _)) (fe_cmp (o_eqX hr.units) g_eqX (fe_lv 2) (fe_lv 1) (nomark _)) (nomark _)) (fss_one (fs_ret fe_bl)) fss_nil) (fss_cons (fs_set 4 sc_law.nd (by kernel_rfl) (.inl (by kernel_rfl)) (fe_strM PySem.F.slot_str_split PySem.F.type_str_split mt_split g_split (fe_lv 3) (fa_cons fe_str fa_nil))) (fss_cons (fs_set 5 sc_law.nd (by kernel_rfl) (.inl (by kernel_rfl)) (fe_op o_addT g_addT (fe_cutT (fe_lv 4) fo_none (fo_some fe_int)) (fe_backL (fe_cutT (fe_lv 4) (fo_some fe_int) fo_none) (fe_neg fe_int)))) (fss_cons (fs_if (FW.ft (fw_or (ft_cmp (o_neX hr.units) g_neX (fe_callH (k' := 6) 5 ["text"] F_read_given h_read_given hr (by decide) (glb (by kernel_rfl)) (fa_cons (fe_strM PySem.F.slot_str_join PySem.F.type_str_join mt_join g_join fe_str (fa_cons (fe_lv 5) fa_nil)) fa_nil)) (fe_lv 1) (nomark _)) (fw_or1 (ft_cmp (o_neX hr.units) g_neX (fe_callH (k' := 6) 5 ["text"] F_read_given h_read_given hr (by decide) (glb (by kernel_rfl)) (fa_cons (fe_strM PySem.F.slot_str_join PySem.F.type_str_join mt_join g_join fe_str (fa_cons (fe_lv 4) fa_nil)) fa_nil)) (fe_lv 1) (nomark _))))) (fss_one (fs_ret fe_bl)) fss_nil) (fss_cons (fs_set 6 sc_law.nd (by kernel_rfl) (.inl (by kernel_rfl)) (fe_op o_addT g_addT fe_int (fe_callH (k' := 6) 2 ["_law_script", "_law_k", "_law_many"] F__law_drawn h__law_drawn hr (by decide) (glb (by kernel_rfl)) (fa_cons (fe_lv 0) (fa_cons fe_int (fa_cons (fe_len (glb (by kernel_rfl)) m_len (fa_cons (fe_lv 4) fa_nil)) fa_nil)))))) (fss_cons (fs_set 7 sc_law.nd (by kernel_rfl) (.inl (by kernel_rfl)) (fe_lst (fa_cons fe_str (fa_cons fe_str (fa_cons fe_str (fa_cons fe_str (fa_cons fe_str (fa_cons fe_str (fa_cons fe_str (fa_cons fe_str (fa_cons fe_str fa_nil))))))))))) (fss_cons (fs_set 8 sc_law.nd (by kernel_rfl) (.inl (by kernel_rfl)) (fe_ix (fe_lv 7) (fe_callH (k' := 6) 2 ["_law_script", "_law_k", "_law_many"] F__law_drawn h__law_drawn hr (by decide) (glb (by kernel_rfl)) (fa_cons (fe_lv 0) (fa_cons fe_int (fa_cons fe_int fa_nil)))))) (fss_cons (fs_if (ft_cmp (o_neX hr.units) g_neX (fe_callH (k' := 6) 5 ["text"] F_read_given h_read_given hr (by decide) (glb (by kernel_rfl)) (fa_cons (fe_strM PySem.F.slot_str_join PySem.F.type_str_join mt_join g_join fe_str (fa_cons (fe_op o_addT g_addT (fe_op o_addT g_addT (fe_cutT (fe_lv 4) fo_none (fo_some (fe_lv 6))) (fe_lst (fa_cons (fe_lv 8) fa_nil))) (fe_cutT (fe_lv 4) (fo_some (fe_lv 6)) fo_none)) fa_nil)) fa_nil)) (fe_lv 1) (nomark _)) (fss_one (fs_ret fe_bl)) fss_nil) (fss_cons (fs_set 9 sc_law.nd (by kernel_rfl) (.inl (by kernel_rfl)) (fe_op o_addT g_addT (fe_op o_addT g_addT (fe_cutT (fe_lv 4) fo_none (fo_some fe_int)) (fe_lst (fa_cons fe_str (fa_cons fe_str (fa_cons fe_str (fa_cons fe_str fa_nil)))))) (fe_cutT (fe_lv 4) (fo_some fe_int) fo_none))) (fss_cons (fs_set 10 sc_law.nd (by kernel_rfl) (.inl (by kernel_rfl)) (fe_callH (k' := 6) 5 ["text"] F_read_given h_read_given hr (by decide) (glb (by kernel_rfl)) (fa_cons (fe_strM PySem.F.slot_str_join PySem.F.type_str_join mt_join g_join fe_str (fa_cons (fe_lv 9) fa_nil)) fa_nil))) (fss_own (i := 11) sc_law.nd (by kernel_rfl) (.inl (by kernel_rfl)) fa_nil (fos_cons (fo_forP rfl 12 13 [12, 13] (by decide) (by decide) PassesOwn.never rfl (fig_zip (glb (by kernel_rfl)) m_zip (fa_cons (fe_cutT (fe_lv 1) (fo_some fe_int) (fo_some fe_int)) (fa_cons (fe_tup (fa_cons fe_str (fa_cons fe_str (fa_cons fe_int (fa_cons fe_int fa_nil))))) fa_nil))) (pg_pair 12 13 rfl sc_law.nd (by kernel_rfl) (.inl (by kernel_rfl)) (.inl rfl) (by kernel_rfl) (.inl (by kernel_rfl)) (.inl rfl)) (fos_one (fo_app rfl (pe_var (by kernel_rfl) (.inl (by kernel_rfl)) (by kernel_rfl) (by kernel_rfl)) (fe_if (ft_cmp op_isN g_isN (fe_lv 12) fe_non (nomark _)) (fe_lv 13) (fe_lv 12))))) (fos_one (fo_ret (fe_cmp (o_eqX hr.units) g_eqX (fe_lv 10) (fe_op o_addT g_addT (fe_op o_addT g_addT (fe_cutT (fe_lv 1) fo_none (fo_some fe_int)) (fe_tuple (glb (by kernel_rfl)) m_tuple (fa_cons (fe_lv 11) fa_nil))) (fe_cutT (fe_lv 1) (fo_some fe_int) fo_none)) (nomark _))))))))))))))))))))
noncomputable abbrev nsM (K : PySem.W.Frag) (x : Str) : Option (Option Value) := PySem.W.nsIn K mainGlobals x
structure Af (K : PySem.W.Frag) (x : Str) (st : Stmt) (f : Addr) : Prop where
  a : nsM K x = some (some (.ref f))
  F : ∃ fd, Fun K x x st f fd
  k : PySem.W.keepIn K (.ref f) = true
theorem af {K : PySem.W.Frag} {x : Str} {st : Stmt} (f : Addr) (m : String) (t c : Nat) (a : nsM K x = some (some (.ref f))) (l : K.lookup f = some ⟨Value.type "function", none, .func (PySem.W.fnOf x x (defArgs st) (defBody st) (defScope st) .none .none .none (kS m t) none (kR c) .none), #[]⟩) (cc : PySem.W.codeIn K (kR c) x = true) (k : PySem.W.keepIn K (.ref f) = true) : Af K x st f := ⟨a, ⟨_, fun_mk l cc k⟩, k⟩
theorem MG {K : PySem.W.Frag} {h : Heap} {mg : Str → Option Value} {x : Str} {v : Value} (X : K.In h) (G : h.Ns mainGlobals mg) (e : nsM K x = some (some v)) : mg x = some v := PySem.W.mg_of X G e
theorem MN {K : PySem.W.Frag} {h : Heap} {mg : Str → Option Value} {x : Str} (X : K.In h) (G : h.Ns mainGlobals mg) (e : nsM K x = some none) : mg x = none := PySem.W.mg_none_of X G e
theorem all_mk {l : PySem.W.OpenLaw} {w : World} {K : PySem.W.Frag} {h : Heap} {mg : Str → Option Value} {fa : Addr} (X : K.In h) (G : h.Ns mainGlobals mg) (hfa : mg "law" = some (.ref fa))
    {f1 f2 f3 f4 f5 f6 f7 f8 f9 f10 f11 f12 f13 f14 f15 f16 f17 f18 f19 f20 f21 f22 f23 : Addr}
    {f24 : Addr} {od24 an24 : Option Addr} {sl24 : Array (Option Value)} {oc24 kV24 dc24 pm24 cd24 ct24 : Value}
    {tk1 tk2 tk3 tk4 tk5 tk6 tk7 tk8 tk9 tk10 tk11 tk12 tk13 tk14 tk15 tk16 tk17 tk18 tk19 tk20 tk21 : Tok}
    (A1 : Af K "_law_cell" s__law_cell f1)
    (A2 : Af K "_law_drawn" s__law_drawn f2)
    (A3 : Af K "_law_name" s__law_name f3)
    (A4 : Af K "_law_path" s__law_path f4)
    (A5 : Af K "_law_given" s__law_given f5)
    (A6 : Af K "_law_text" s__law_text f6)
    (A7 : Af K "is_whole_number" s_is_whole_number f7)
    (A8 : Af K "is_moment" s_is_moment f8)
    (A9 : Af K "is_moment_or_none" s_is_moment_or_none f9)
    (A10 : Af K "is_text_of" s_is_text_of f10)
    (A11 : Af K "is_label" s_is_label f11)
    (A12 : Af K "is_name" s_is_name f12)
    (A13 : Af K "is_note_name" s_is_note_name f13)
    (A14 : Af K "is_path" s_is_path f14)
    (A15 : Af K "is_reach" s_is_reach f15)
    (A16 : Af K "is_tuple_of" s_is_tuple_of f16)
    (A17 : Af K "is_worth" s_is_worth f17)
    (A18 : Af K "is_given" s_is_given f18)
    (A19 : Af K "need_given" s_need_given f19)
    (A20 : Af K "given_text" s_given_text f20)
    (A21 : Af K "is_written_moment" s_is_written_moment f21)
    (A22 : Af K "what_is_told" s_what_is_told f22)
    (A23 : Af K "read_given" s_read_given f23)
    (a24 : nsM K "law" = some (some (.ref f24))) (l24 : K.lookup f24 = some ⟨oc24, od24, .func (PySem.W.fnOf "law" "law" (defArgs s_law) (defBody s_law) (defScope s_law) .none kV24 dc24 pm24 an24 cd24 ct24), sl24⟩) (c24 : PySem.W.codeIn K cd24 "law" = true) (k24 : PySem.W.keepIn K (.ref f24) = true)
    (z1 : nsM K "all" = some none)
    (z2 : nsM K "bool" = some none)
    (z3 : nsM K "int" = some none)
    (z4 : nsM K "isinstance" = some none)
    (z5 : nsM K "len" = some none)
    (z6 : nsM K "str" = some none)
    (z7 : nsM K "tuple" = some none)
    (z8 : nsM K "zip" = some none)
    (g1 : nsM K "FIGURES" = some (some (.str (Str.ofString "0123456789") tk1)))
    (g2 : nsM K "GIVEN_HOUSE" = some (some (.int 2 tk2)))
    (g3 : nsM K "GIVEN_LASTS" = some (some (.int 5 tk3)))
    (g4 : nsM K "GIVEN_NAME" = some (some (.int 0 tk4)))
    (g5 : nsM K "GIVEN_PARTS" = some (some (.int 8 tk5)))
    (g6 : nsM K "GIVEN_PATH" = some (some (.int 3 tk6)))
    (g7 : nsM K "GIVEN_REACH" = some (some (.int 7 tk7)))
    (g8 : nsM K "GIVEN_SAFE" = some (some (.int 6 tk8)))
    (g9 : nsM K "GIVEN_UNTIL" = some (some (.int 4 tk9)))
    (g10 : nsM K "GIVEN_WORTH" = some (some (.int 1 tk10)))
    (g11 : nsM K "LABEL_SIGNS" = some (some (.str (Str.ofString "abcdefghijklmnopqrstuvwxyz0123456789-") tk11)))
    (g12 : nsM K "LAST_MOMENT" = some (some (.int 9999 tk12)))
    (g13 : nsM K "LONGEST_LABEL" = some (some (.int 8 tk13)))
    (g14 : nsM K "LONGEST_NOTE_NAME" = some (some (.int 10 tk14)))
    (g15 : nsM K "LONGEST_PATH" = some (some (.int 20 tk15)))
    (g16 : nsM K "LONGEST_WORTH" = some (some (.int 12 tk16)))
    (g17 : nsM K "MOST_FIGURES" = some (some (.int 4 tk17)))
    (g18 : nsM K "MOST_LABELS" = some (some (.int 5 tk18)))
    (g19 : nsM K "NOTE_NAME_SIGNS" = some (some (.str (Str.ofString "abcdefghijklmnopqrstuvwxyzABCDEFGHIJKLMNOPQRSTUVWXYZ0123456789-_") tk19)))
    (g20 : nsM K "NO_WORTH_SIGNS" = some (some (.str (Str.ofString ";,=") tk20)))
    (g21 : nsM K "PATH_SIGNS" = some (some (.str (Str.ofString "abcdefghijklmnopqrstuvwxyz0123456789-_./") tk21))) :
    ∃ fd : FuncData, (∀ (s : Shared) (v : Value), BindsTo s fd ⟨[v], []⟩ [("_law_script", v)]) ∧ ∀ base : Heap, K.In base → base.Ns mainGlobals mg → FnOk l.prog w K mg base CX0 7 fa fd ["_law_script"] (spF K F_law 1) := by
  have e := hfa.symm.trans (MG X G a24)
  cases e
  obtain ⟨a1, ⟨_, F1⟩, k1⟩ := A1
  obtain ⟨a2, ⟨_, F2⟩, k2⟩ := A2
  obtain ⟨a3, ⟨_, F3⟩, k3⟩ := A3
  obtain ⟨a4, ⟨_, F4⟩, k4⟩ := A4
  obtain ⟨a5, ⟨_, F5⟩, k5⟩ := A5
  obtain ⟨a6, ⟨_, F6⟩, k6⟩ := A6
  obtain ⟨a7, ⟨_, F7⟩, k7⟩ := A7
  obtain ⟨a8, ⟨_, F8⟩, k8⟩ := A8
  obtain ⟨a9, ⟨_, F9⟩, k9⟩ := A9
  obtain ⟨a10, ⟨_, F10⟩, k10⟩ := A10
  obtain ⟨a11, ⟨_, F11⟩, k11⟩ := A11
  obtain ⟨a12, ⟨_, F12⟩, k12⟩ := A12
  obtain ⟨a13, ⟨_, F13⟩, k13⟩ := A13
  obtain ⟨a14, ⟨_, F14⟩, k14⟩ := A14
  obtain ⟨a15, ⟨_, F15⟩, k15⟩ := A15
  obtain ⟨a16, ⟨_, F16⟩, k16⟩ := A16
  obtain ⟨a17, ⟨_, F17⟩, k17⟩ := A17
  obtain ⟨a18, ⟨_, F18⟩, k18⟩ := A18
  obtain ⟨a19, ⟨_, F19⟩, k19⟩ := A19
  obtain ⟨a20, ⟨_, F20⟩, k20⟩ := A20
  obtain ⟨a21, ⟨_, F21⟩, k21⟩ := A21
  obtain ⟨a22, ⟨_, F22⟩, k22⟩ := A22
  obtain ⟨a23, ⟨_, F23⟩, k23⟩ := A23
  have F24 := fun_mk (st := s_law) l24 c24 k24
  have m_all := MN X G z1
  have m_bool := MN X G z2
  have m_int := MN X G z3
  have m_isinstance := MN X G z4
  have m_len := MN X G z5
  have m_str := MN X G z6
  have m_tuple := MN X G z7
  have m_zip := MN X G z8
  have m_FIGURES := MG X G g1
  have m_GIVEN_HOUSE := MG X G g2
  have m_GIVEN_LASTS := MG X G g3
  have m_GIVEN_NAME := MG X G g4
  have m_GIVEN_PARTS := MG X G g5
  have m_GIVEN_PATH := MG X G g6
  have m_GIVEN_REACH := MG X G g7
  have m_GIVEN_SAFE := MG X G g8
  have m_GIVEN_UNTIL := MG X G g9
  have m_GIVEN_WORTH := MG X G g10
  have m_LABEL_SIGNS := MG X G g11
  have m_LAST_MOMENT := MG X G g12
  have m_LONGEST_LABEL := MG X G g13
  have m_LONGEST_NOTE_NAME := MG X G g14
  have m_LONGEST_PATH := MG X G g15
  have m_LONGEST_WORTH := MG X G g16
  have m_MOST_FIGURES := MG X G g17
  have m_MOST_LABELS := MG X G g18
  have m_NOTE_NAME_SIGNS := MG X G g19
  have m_NO_WORTH_SIGNS := MG X G g20
  have m_PATH_SIGNS := MG X G g21
  refine ⟨PySem.W.fnOf "law" "law" (defArgs s_law) (defBody s_law) (defScope s_law) .none kV24 dc24 pm24 an24 cd24 ct24, fun s v => .of_eq rfl, fun base _ _ => ?_⟩
  have h__law_cell : Has l.prog w K mg base "_law_cell" 1 ["_law_script", "_law_k"] F__law_cell := ⟨_, _, fn__law_cell F1 m_len, MG X G a1, k1, bd__law_cell F1⟩
  have h__law_drawn : Has l.prog w K mg base "_law_drawn" 2 ["_law_script", "_law_k", "_law_many"] F__law_drawn := ⟨_, _, fn__law_drawn F2 h__law_cell, MG X G a2, k2, bd__law_drawn F2⟩
  have h__law_name : Has l.prog w K mg base "_law_name" 3 ["_law_script", "_law_at"] F__law_name := ⟨_, _, fn__law_name F3 h__law_drawn m_len, MG X G a3, k3, bd__law_name F3⟩
  have h__law_path : Has l.prog w K mg base "_law_path" 3 ["_law_script", "_law_at"] F__law_path := ⟨_, _, fn__law_path F4 h__law_drawn m_len, MG X G a4, k4, bd__law_path F4⟩
  have h__law_given : Has l.prog w K mg base "_law_given" 4 ["_law_script", "_law_at", "_law_house"] F__law_given := ⟨_, _, fn__law_given F5 h__law_drawn h__law_name h__law_path, MG X G a5, k5, bd__law_given F5⟩
  have h__law_text : Has l.prog w K mg base "_law_text" 1 ["_law_given_here"] F__law_text := ⟨_, _, fn__law_text F6 m_str m_zip, MG X G a6, k6, bd__law_text F6⟩
  have h_is_whole_number : Has l.prog w K mg base "is_whole_number" 1 ["thing", "least", "most"] F_is_whole_number := ⟨_, _, fn_is_whole_number F7 m_bool m_int m_isinstance, MG X G a7, k7, bd_is_whole_number F7⟩
  have h_is_moment : Has l.prog w K mg base "is_moment" 2 ["thing"] F_is_moment := ⟨_, _, fn_is_moment F8 h_is_whole_number m_LAST_MOMENT, MG X G a8, k8, bd_is_moment F8⟩
  have h_is_moment_or_none : Has l.prog w K mg base "is_moment_or_none" 3 ["thing"] F_is_moment_or_none := ⟨_, _, fn_is_moment_or_none F9 h_is_moment, MG X G a9, k9, bd_is_moment_or_none F9⟩
  have h_is_text_of : Has l.prog w K mg base "is_text_of" 1 ["thing", "signs", "least", "most"] F_is_text_of := ⟨_, _, fn_is_text_of F10 m_all m_isinstance m_len m_str, MG X G a10, k10, bd_is_text_of F10⟩
  have h_is_label : Has l.prog w K mg base "is_label" 2 ["thing"] F_is_label := ⟨_, _, fn_is_label F11 h_is_text_of m_LABEL_SIGNS m_LONGEST_LABEL, MG X G a11, k11, bd_is_label F11⟩
  have h_is_name : Has l.prog w K mg base "is_name" 3 ["thing"] F_is_name := ⟨_, _, fn_is_name F12 h_is_label h_is_text_of m_all m_isinstance m_len m_str m_FIGURES m_LONGEST_LABEL m_MOST_LABELS, MG X G a12, k12, bd_is_name F12⟩
  have h_is_note_name : Has l.prog w K mg base "is_note_name" 2 ["thing"] F_is_note_name := ⟨_, _, fn_is_note_name F13 h_is_text_of m_LONGEST_NOTE_NAME m_NOTE_NAME_SIGNS, MG X G a13, k13, bd_is_note_name F13⟩
  have h_is_path : Has l.prog w K mg base "is_path" 2 ["thing"] F_is_path := ⟨_, _, fn_is_path F14 h_is_text_of m_LONGEST_PATH m_PATH_SIGNS, MG X G a14, k14, bd_is_path F14⟩
  have h_is_reach : Has l.prog w K mg base "is_reach" 1 ["thing"] F_is_reach := ⟨_, _, fn_is_reach F15, MG X G a15, k15, bd_is_reach F15⟩
  have h_is_tuple_of : Has l.prog w K mg base "is_tuple_of" 1 ["thing", "parts"] F_is_tuple_of := ⟨_, _, fn_is_tuple_of F16 m_isinstance m_len m_tuple, MG X G a16, k16, bd_is_tuple_of F16⟩
  have h_is_worth : Has l.prog w K mg base "is_worth" 1 ["thing"] F_is_worth := ⟨_, _, fn_is_worth F17 m_all m_isinstance m_len m_str m_LONGEST_WORTH m_NO_WORTH_SIGNS, MG X G a17, k17, bd_is_worth F17⟩
  have h_is_given : Has l.prog w K mg base "is_given" 4 ["thing"] F_is_given := ⟨_, _, fn_is_given F18 h_is_moment_or_none h_is_name h_is_note_name h_is_path h_is_reach h_is_tuple_of h_is_worth m_all m_bool m_isinstance m_GIVEN_HOUSE m_GIVEN_LASTS m_GIVEN_NAME m_GIVEN_PARTS m_GIVEN_PATH m_GIVEN_REACH m_GIVEN_SAFE m_GIVEN_UNTIL m_GIVEN_WORTH, MG X G a18, k18, bd_is_given F18⟩
  have h_need_given : Has l.prog w K mg base "need_given" 5 ["thing"] F_need_given := ⟨_, _, fn_need_given F19 h_is_given, MG X G a19, k19, bd_need_given F19⟩
  have h_given_text : Has l.prog w K mg base "given_text" 6 ["given"] F_given_text := ⟨_, _, fn_given_text F20 h_need_given m_str m_GIVEN_HOUSE m_GIVEN_LASTS m_GIVEN_NAME m_GIVEN_PATH m_GIVEN_REACH m_GIVEN_SAFE m_GIVEN_UNTIL m_GIVEN_WORTH, MG X G a20, k20, bd_given_text F20⟩
  have h_is_written_moment : Has l.prog w K mg base "is_written_moment" 2 ["text"] F_is_written_moment := ⟨_, _, fn_is_written_moment F21 h_is_text_of m_FIGURES m_MOST_FIGURES, MG X G a21, k21, bd_is_written_moment F21⟩
  have h_what_is_told : Has l.prog w K mg base "what_is_told" 4 ["part"] F_what_is_told := ⟨_, _, fn_what_is_told F22 h_is_name h_is_path h_is_reach h_is_written_moment m_int m_GIVEN_HOUSE m_GIVEN_LASTS m_GIVEN_PATH m_GIVEN_REACH m_GIVEN_SAFE m_GIVEN_UNTIL, MG X G a22, k22, bd_what_is_told F22⟩
  have h_read_given : Has l.prog w K mg base "read_given" 5 ["text"] F_read_given := ⟨_, _, fn_read_given F23 h_is_note_name h_is_worth h_what_is_told m_isinstance m_str m_tuple, MG X G a23, k23, bd_read_given F23⟩
  exact fn_law F24 h__law_drawn h__law_given h__law_name h__law_text h_given_text h_is_given h_read_given m_len m_tuple m_zip
end G
set_option maxHeartbeats 4000000
namespace FD
open PySem PySem.Spec
open PySem.StrLaws PySem.Builtin PySem.Builtin.Str
def J (S : List Nat) : List Nat → List (List Nat) → List Nat
  | p, [] => p
  | p, q :: r => p ++ (S ++ J S q r)
theorem at_iff {x sep : Str} {k : Nat} : At x sep x.length k ↔ k + sep.length ≤ x.length ∧ (x.cps.toList.drop k).take sep.length = sep.cps.toList := by
  unfold At
  rw [subAt_eq]
  simp
theorem at_sign {x sep : Str} {c : Nat} {rest : List Nat} (hS : sep.cps.toList = c :: rest) {k : Nat} (h : At x sep x.length k) : x.cps.toList[k]? = some c := by
  obtain ⟨_, h2⟩ := at_iff.mp h
  rw [hS] at h2
  have h3 := congrArg (fun l => l[0]?) h2
  simp only [List.getElem?_cons_zero] at h3
  have hl : 0 < sep.length := by
    show 0 < sep.cps.size
    rw [← Array.length_toList, hS]
    simp
  rw [List.getElem?_take_of_lt hl, List.getElem?_drop] at h3
  simpa using h3
theorem free_at {x sep : Str} {c : Nat} {rest : List Nat} (hS : sep.cps.toList = c :: rest) {p tl : List Nat} {a k : Nat} (hd : x.cps.toList.drop a = p ++ tl) (hp : c ∉ p) (h1 : a ≤ k) (h2 : k < a + p.length) : ¬ At x sep x.length k := by
  intro h
  have e := at_sign hS h
  have e2 : (x.cps.toList.drop a)[k - a]? = some c := by rw [List.getElem?_drop, show a + (k - a) = k by omega]; exact e
  rw [hd, List.getElem?_append_left (by omega)] at e2
  exact hp (List.mem_of_getElem? e2)
theorem parts_of {x sep : Str} {c : Nat} {rest : List Nat} (hS : sep.cps.toList = c :: rest) : ∀ (parts : List (List Nat)) (p : List Nat) (a : Nat) (cuts : List Nat) (f : Nat), (∀ q ∈ p :: parts, c ∉ q) → x.cps.toList.drop a = J sep.cps.toList p parts → a ≤ x.length →
    ChainG x sep x.length a cuts f → (∀ k, f ≤ k → ¬ At x sep x.length k) → (partsFrom x sep.length a cuts).map (fun s => s.cps.toList) = p :: parts
  | [], p, a, cuts, f, hp, hd, ha, hG, hn => by
    have hlen : x.cps.toList.length = x.length := by simp [Str.length]
    have hno : ∀ k, a ≤ k → ¬ At x sep x.length k := fun k hk h => by
      have e := at_sign hS h
      have e2 : (x.cps.toList.drop a)[k - a]? = some c := by rw [List.getElem?_drop, show a + (k - a) = k by omega]; exact e
      rw [hd] at e2
      exact hp p List.mem_cons_self (List.mem_of_getElem? e2)
    cases cuts with
    | nil =>
      show [(strSub x a x.length).cps.toList] = [p]
      rw [strSub_toList, hd]
      show [p.take (x.length - a)] = [p]
      have : p.length = x.length - a := by
        have := congrArg List.length hd
        rw [List.length_drop, hlen] at this
        exact this.symm
      rw [List.take_of_length_le (by omega)]
    | cons k ks => exact absurd hG.2.1 (hno k hG.1)
  | q :: r, p, a, cuts, f, hp, hd, ha, hG, hn => by
    have hlen : x.cps.toList.length = x.length := by simp [Str.length]
    have hsl : sep.cps.toList.length = sep.length := by simp [Str.length]
    have hd' : x.cps.toList.drop a = p ++ (sep.cps.toList ++ J sep.cps.toList q r) := hd
    have hdp : x.cps.toList.drop (a + p.length) = sep.cps.toList ++ J sep.cps.toList q r := by
      rw [← List.drop_drop, hd', List.drop_left]
    have hl1 := congrArg List.length hdp
    rw [List.length_drop, hlen, List.length_append, hsl] at hl1
    have hs0 : 0 < sep.length := by rw [← hsl, hS]; simp
    have hat : At x sep x.length (a + p.length) := at_iff.mpr ⟨by omega, by rw [hdp, ← hsl, List.take_left]⟩
    have hbe : ∀ k, a ≤ k → k < a + p.length → ¬ At x sep x.length k := fun k h1 h2 => free_at hS hd' (hp p List.mem_cons_self) h1 h2
    cases cuts with
    | nil => exact absurd hat (hn _ (by have : f = a := hG; omega))
    | cons k ks =>
      obtain ⟨g1, g2, g3, g4⟩ := hG
      have ek : k = a + p.length := by
        rcases Nat.lt_trichotomy k (a + p.length) with h | h | h
        · exact absurd g2 (hbe k g1 h)
        · exact h
        · exact absurd hat (g3 _ (by omega) h)
      subst ek
      show (strSub x a (a + p.length)).cps.toList :: (partsFrom x sep.length (a + p.length + sep.length) ks).map (fun s => s.cps.toList) = p :: q :: r
      rw [parts_of hS r q (a + p.length + sep.length) ks f (fun z hz => hp z (List.mem_cons_of_mem _ hz)) (by rw [← List.drop_drop, hdp, ← hsl, List.drop_left]) (by omega) g4 hn, strSub_toList, hd', show a + p.length - a = p.length by omega, List.take_left]
theorem str_inj {a b : Str} (h : a.cps.toList = b.cps.toList) : a = b := by
  obtain ⟨⟨a⟩⟩ := a; obtain ⟨⟨b⟩⟩ := b
  simp at h
  rw [h]
theorem map_inj_str : ∀ {l m : List Str}, l.map (fun s => s.cps.toList) = m.map (fun s => s.cps.toList) → l = m
  | [], [], _ => rfl
  | a :: l, b :: m, h => by
    simp only [List.map_cons, List.cons.injEq] at h
    rw [str_inj h.1, map_inj_str h.2]
  | [], _ :: _, h => by simp at h
  | _ :: _, [], h => by simp at h
theorem split_parts {x sep : Str} {c : Nat} {rest : List Nat} (hS : sep.cps.toList = c :: rest) (hk : PySem.Builtin.Str.strKind sep = 1) {p : Str} {parts : List Str} (hp : ∀ q ∈ p :: parts, c ∉ q.cps.toList) (hx : x.cps.toList = J sep.cps.toList p.cps.toList (parts.map fun s => s.cps.toList)) :
    Txt.split x sep = p :: parts := by
  have hsl : sep.cps.toList.length = sep.length := by simp [Str.length]
  have hlen : x.cps.toList.length = x.length := by simp [Str.length]
  obtain ⟨f, hG, hn⟩ := occ_tight x sep (by rw [← hsl, hS]; simp)
  have main := parts_of hS (parts.map fun s => s.cps.toList) p.cps.toList 0 _ f (by
    intro q hq
    rcases List.mem_cons.mp hq with rfl | hq
    · exact hp p List.mem_cons_self
    · obtain ⟨s, hs, rfl⟩ := List.mem_map.mp hq
      exact hp s (List.mem_cons_of_mem _ hs)) (by rw [List.drop_zero]; exact hx) (Nat.zero_le _) hG hn
  have hx1 : 1 ≤ PySem.Builtin.Str.strKind x := by unfold PySem.Builtin.Str.strKind; split; omega; split <;> omega
  unfold Txt.split
  split
  · rename_i hc
    rw [Bool.or_eq_true, decide_eq_true_eq, decide_eq_true_eq] at hc
    rcases hc with h | h
    · cases parts with
      | nil => rw [str_inj (a := x) (b := p) hx]
      | cons q r =>
        have := congrArg List.length hx
        rw [hlen] at this
        simp only [List.map_cons, J, List.length_append, hsl] at this
        omega
    · omega
  · split
    · rename_i he
      have e0 : occurrences x sep 0 x.length (x.length + 1) = [] := List.isEmpty_iff.mp he
      rw [e0] at main
      have m2 : [(strSub x 0 x.length).cps.toList] = p.cps.toList :: (parts.map fun s => s.cps.toList) := main
      rw [sub_whole] at m2
      exact map_inj_str (l := [x]) (m := p :: parts) m2
    · rw [partsBetween_eq]
      exact map_inj_str (by rw [main]; rfl)
end FD
namespace FD
open PySem PySem.Spec PyProof.Rows L2
theorem mapG_all {elt : FnE} {cap : Ev} {α : Type} (en : α → Dv) (f : α → Dv) : ∀ {l : List α}, (∀ a ∈ l, elt (cap.set 0 (some (en a))) = some (.ok (f a))) → mapG (gN 0) none elt cap (l.map en) = some (l.map f)
  | [], _ => rfl
  | a :: l, h => by
    have ih := mapG_all (elt := elt) (cap := cap) en f (l := l) fun b hb => h b (List.mem_cons_of_mem _ hb)
    rw [List.map_cons, List.map_cons]
    unfold mapG
    show (match elt (cap.set 0 (some (en a))) with | some (.ok y) => _ | _ => _) = _
    rw [h a List.mem_cons_self, ih]
theorem compG_all {cs : List (Str × Nat)} {src : FnA} {elt : FnE} {ρ : Ev} {α : Type} (en f : α → Dv) {l : List α} (hs : src ρ = some (.ok (l.map en))) (hl : l.length ≤ 100000) (h : ∀ a ∈ l, elt ((capG 1 cs ρ).set 0 (some (en a))) = some (.ok (f a))) : fCompG 1 cs src (gN 0) none elt ρ = some (.ok (.lst (l.map f))) := by
  unfold fCompG
  rw [hs]
  show (match mapG (gN 0) none elt (capG 1 cs ρ) (l.map en) with | some ys => _ | none => _) = _
  rw [mapG_all en f h]
  dsimp only
  rw [if_pos ⟨by simpa using hl, by simpa using hl⟩]
mutual
def pln : Dv → Bool
  | .exn _ => false
  | .tup ds => plns ds
  | .lst ds => plns ds
  | _ => true
def plns : List Dv → Bool
  | [] => true
  | d :: ds => pln d && plns ds
end
mutual
theorem eqv_refl : ∀ d : Dv, pln d = true → PyData.eqv (toPy d) (toPy d) = true
  | .non, _ => by simp [toPy, PyData.eqv]
  | .bl b, _ => by simp [toPy, PyData.eqv]
  | .int b, _ => by simp [toPy, PyData.eqv]
  | .str b, _ => by simp [toPy, PyData.eqv]
  | .tup ds, h => by simp only [toPy, PyData.eqv]; exact eqvs_refl ds (by simpa [pln] using h)
  | .lst ds, h => by simp only [toPy, PyData.eqv]; exact eqvs_refl ds (by simpa [pln] using h)
  | .scr ns, _ => by
    simp only [toPy, PyData.eqv]
    induction ns with
    | nil => simp [PyData.eqvAll]
    | cons n ns ih => simp [PyData.eqvAll, PyData.eqv]; exact ih rfl
  | .exn _, h => by simp [pln] at h
theorem eqvs_refl : ∀ ds : List Dv, plns ds = true → PyData.eqvAll (toPys ds) (toPys ds) = true
  | [], _ => by simp [toPys, PyData.eqvAll]
  | d :: ds, h => by
    have h' : pln d = true ∧ plns ds = true := by simpa [plns] using h
    simp only [toPys, PyData.eqvAll, Bool.and_eq_true]
    exact ⟨eqv_refl d h'.1, eqvs_refl ds h'.2⟩
end
theorem ne_self {d : Dv} (h1 : okP d = true) (h2 : pln d = true) : neX d d = some (.ok (.bl false)) := by
  unfold neX
  split
  · rename_i b hb
    have : b = true := by
      cases d <;> simp [eqS] at hb
      · exact hb
      · exact hb
      · exact hb
      · rw [← hb]; unfold seq; simp
    rw [this]; rfl
  · rw [h1, eqv_refl d h2]; rfl
theorem eq_self {d : Dv} (h1 : okP d = true) (h2 : pln d = true) : eqX d d = some (.ok (.bl true)) := by
  unfold eqX
  split
  · rename_i b hb
    have : b = true := by
      cases d <;> simp [eqS] at hb
      · exact hb
      · exact hb
      · exact hb
      · rw [← hb]; unfold seq; simp
    rw [this]
  · rw [h1, eqv_refl d h2]; rfl
structure It1 (k : Nat) (d : Dv) : Prop where
  c : PyData.canLay0 (toPy d) = true
  dp : (toPy d).depth ≤ k
  p : pln d = true
theorem its_c {k : Nat} : ∀ {ds : List Dv}, (∀ d ∈ ds, It1 k d) → PyData.canLayAll0 (toPys ds) = true ∧ PyData.depthAll (toPys ds) ≤ k ∧ plns ds = true
  | [], _ => by simp [toPys, PyData.canLayAll0, PyData.depthAll, plns]
  | d :: ds, h => by
    obtain ⟨h1, h2, h3⟩ := its_c (ds := ds) fun d' hd => h d' (List.mem_cons_of_mem _ hd)
    have h0 := h d List.mem_cons_self
    simp only [toPys, PyData.canLayAll0, PyData.depthAll, plns, Bool.and_eq_true]
    exact ⟨⟨h0.c, h1⟩, by have := h0.dp; omega, h0.p, h3⟩
theorem it_tup {k : Nat} {ds : List Dv} (h : ∀ d ∈ ds, It1 k d) : It1 (k + 1) (.tup ds) := by
  obtain ⟨h1, h2, h3⟩ := its_c h
  exact ⟨by simpa [toPy, PyData.canLay0] using h1, by simp [toPy, PyData.depth]; exact h2, by simpa [pln] using h3⟩
theorem It1.okP {k : Nat} {d : Dv} (h : It1 k d) (hk : k ≤ 64) : okP d = true := by
  unfold FD.okP SeqAt.shaped
  rw [h.c]
  have := h.dp
  simp
  omega
theorem it_str {x : Str} (h : PyData.canLay0 (.str x) = true) : It1 0 (.str x) := ⟨h, by simp [toPy, PyData.depth], rfl⟩
theorem it_int {i : Int} : It1 0 (.int i) := ⟨rfl, by simp [toPy, PyData.depth], rfl⟩
theorem it_bl {i : Bool} : It1 0 (.bl i) := ⟨rfl, by simp [toPy, PyData.depth], rfl⟩
theorem it_non : It1 0 .non := ⟨rfl, by simp [toPy, PyData.depth], rfl⟩
end FD
namespace G
open PySem PySem.Spec PyProof.Rows L2 FD
theorem cell_ok (ns : List Int) (hl : ns.length ≤ 63) (k : Int) : ∃ c, F__law_cell [.scr ns, .int k] = some (.ok (.int c)) := by
  cases ns with
  | nil => exact ⟨7 * k, by kernel_rfl⟩
  | cons n r =>
    have h0 : 0 < (n :: r).length := by simp
    have h1 : (0 : Int) < ((n :: r).length : Int) := by omega
    have h2 : ((n :: r).length : Int) < 1073741824 := by omega
    have h3 : 0 ≤ k % ((n :: r).length : Int) := Int.emod_nonneg _ (by omega)
    have h4 : k % ((n :: r).length : Int) < ((n :: r).length : Int) := Int.emod_lt_of_pos _ h1
    have h5 : (k % ((n :: r).length : Int)).toNat < (n :: r).length := by omega
    refine ⟨(n :: r)[(k % ((n :: r).length : Int)).toNat] + 6553 * (k / ((n :: r).length : Int)), ?_⟩
    have hat : atD (n :: r) (k % ((n :: r).length : Int)) = some (n :: r)[(k % ((n :: r).length : Int)).toNat] := by
      unfold atD
      rw [if_pos h3, List.getElem?_eq_getElem h5]
    have hm : modD (.int k) (.int ((n :: r).length : Int)) = some (.ok (.int (k % ((n :: r).length : Int)))) := by
      show (if 0 < ((n :: r).length : Int) then _ else _) = _
      rw [if_pos h1]
    have hd : fdivD (.int k) (.int ((n :: r).length : Int)) = some (.ok (.int (k / ((n :: r).length : Int)))) := by
      show (if 0 < ((n :: r).length : Int) ∧ ((n :: r).length : Int) < 1073741824 then _ else _) = _
      rw [if_pos ⟨h1, h2⟩]
    have hi : ixD (.scr (n :: r)) (.int (k % ((n :: r).length : Int))) = some (.ok (.int (n :: r)[(k % ((n :: r).length : Int)).toNat])) := by
      show (match atD (n :: r) (k % ((n :: r).length : Int)) with | some d => _ | none => _) = _
      rw [hat]
    show (match B__law_cell [some (.scr (n :: r)), some (.int k)] with | some (.nx _) => _ | some (.rt d) => _ | _ => _) = _
    have e : B__law_cell [some (.scr (n :: r)), some (.int k)] = bndS (bnd (bnd (modD (.int k) (.int ((n :: r).length : Int))) fun i => ixD (.scr (n :: r)) i) fun x => bnd (bnd (fdivD (.int k) (.int ((n :: r).length : Int))) fun q => mulD (.int 6553) q) fun y => addD x y) fun d => some (.rt d) := by kernel_rfl
    rw [e, hm, hd]
    show (match bndS (bnd (ixD (.scr (n :: r)) (.int (k % ((n :: r).length : Int)))) fun x => _) _ with | some (.nx _) => _ | some (.rt d) => _ | _ => _) = _
    rw [hi]
    kernel_rfl
def dr1 (c k : Int) : Int := (c % 2147483563 * 69069 + 104723 * (k + 1)) % 2147483563
def dr2 (c : Int) : Int := (c * c + c / 3) % 2147483399
def dr3 (c m : Int) : Int := (c * c + c / 7) % 2147483647 / 11 % m
theorem mul_ok {i j : Int} (h : (-18446744073709551616 < i ∧ i < 18446744073709551616) ∨ (-18446744073709551616 < j ∧ j < 18446744073709551616)) : mulD (.int i) (.int j) = some (.ok (.int (i * j))) := by
  show (if _ then _ else _) = _
  rw [if_pos h]
theorem mod_ok {i j : Int} (h : 0 < j) : modD (.int i) (.int j) = some (.ok (.int (i % j))) := by
  show (if _ then _ else _) = _
  rw [if_pos h]
theorem drawn_ok (ns : List Int) (hl : ns.length ≤ 63) (k m : Int) (hm : 0 < m) : ∃ d : Int, 0 ≤ d ∧ d < m ∧ F__law_drawn [.scr ns, .int k, .int m] = some (.ok (.int d)) := by
  obtain ⟨c, hc⟩ := cell_ok ns hl k
  refine ⟨dr3 (dr2 (dr1 c k)) m, Int.emod_nonneg _ (by omega), Int.emod_lt_of_pos _ hm, ?_⟩
  have b1 : 0 ≤ dr1 c k ∧ dr1 c k < 2147483563 := ⟨Int.emod_nonneg _ (by omega), Int.emod_lt_of_pos _ (by omega)⟩
  have b2 : 0 ≤ dr2 (dr1 c k) ∧ dr2 (dr1 c k) < 2147483399 := ⟨Int.emod_nonneg _ (by omega), Int.emod_lt_of_pos _ (by omega)⟩
  have b0 : 0 ≤ c % 2147483563 ∧ c % 2147483563 < 2147483563 := ⟨Int.emod_nonneg _ (by omega), Int.emod_lt_of_pos _ (by omega)⟩
  show runF 4 B__law_drawn [.scr ns, .int k, .int m] = _
  have s1 : (fCall F__law_cell 2 (aCons (fVar 0) (aCons (fVar 1) aNil))) [some (.scr ns), some (.int k), some (.int m), none] = some (.ok (.int c)) := by
    show (match F__law_cell [.scr ns, .int k] with | some (.ok d) => (some (.ok d) : Option (Rs Dv)) | _ => none) = _
    rw [hc]
  have e1 : (fSet 3 (f2 modD (f2 addD (f2 mulD (f2 modD (fCall F__law_cell 2 (aCons (fVar 0) (aCons (fVar 1) aNil))) (fC (.int 2147483563))) (fC (.int 69069))) (f2 mulD (fC (.int 104723)) (f2 addD (fVar 1) (fC (.int 1))))) (fC (.int 2147483563)))) [some (.scr ns), some (.int k), some (.int m), none] = some (.nx [some (.scr ns), some (.int k), some (.int m), some (.int (dr1 c k))]) := by
    show bndS (bnd (bnd (bnd (bnd ((fCall F__law_cell 2 (aCons (fVar 0) (aCons (fVar 1) aNil))) [some (.scr ns), some (.int k), some (.int m), none]) fun x => modD x (.int 2147483563)) fun x => mulD x (.int 69069)) fun x => bnd (mulD (.int 104723) (.int (k + 1))) fun y => addD x y) fun x => modD x (.int 2147483563)) (fun d => some (.nx [some (.scr ns), some (.int k), some (.int m), some d])) = _
    rw [s1]
    show bndS (bnd (bnd (bnd (modD (.int c) (.int 2147483563)) fun x => mulD x (.int 69069)) fun x => bnd (mulD (.int 104723) (.int (k + 1))) fun y => addD x y) fun x => modD x (.int 2147483563)) _ = _
    rw [mod_ok (by omega), mul_ok (i := 104723) (.inl (by omega))]
    show bndS (bnd (bnd (mulD (.int (c % 2147483563)) (.int 69069)) fun x => addD x (.int (104723 * (k + 1)))) fun x => modD x (.int 2147483563)) _ = _
    rw [mul_ok (.inl (by omega))]
    show bndS (modD (.int (c % 2147483563 * 69069 + 104723 * (k + 1))) (.int 2147483563)) _ = _
    rw [mod_ok (by omega)]
    rfl
  generalize hd1 : dr1 c k = d1 at *
  have e2 : (fSet 3 (f2 modD (f2 addD (f2 mulD (fVar 3) (fVar 3)) (f2 fdivD (fVar 3) (fC (.int 3)))) (fC (.int 2147483399)))) [some (.scr ns), some (.int k), some (.int m), some (.int d1)] = some (.nx [some (.scr ns), some (.int k), some (.int m), some (.int (dr2 d1))]) := by
    show bndS (bnd (bnd (mulD (.int d1) (.int d1)) fun x => addD x (.int (d1 / 3))) fun x => modD x (.int 2147483399)) (fun d => some (.nx [some (.scr ns), some (.int k), some (.int m), some d])) = _
    rw [mul_ok (.inl (by omega))]
    show bndS (modD (.int (d1 * d1 + d1 / 3)) (.int 2147483399)) _ = _
    rw [mod_ok (by omega)]
    rfl
  generalize hd2 : dr2 d1 = d2 at *
  have e3 : (fRet (f2 modD (f2 fdivD (f2 modD (f2 addD (f2 mulD (fVar 3) (fVar 3)) (f2 fdivD (fVar 3) (fC (.int 7)))) (fC (.int 2147483647))) (fC (.int 11))) (fVar 2))) [some (.scr ns), some (.int k), some (.int m), some (.int d2)] = some (.rt (.int (dr3 d2 m))) := by
    show bndS (bnd (bnd (bnd (bnd (mulD (.int d2) (.int d2)) fun x => addD x (.int (d2 / 7))) fun x => modD x (.int 2147483647)) fun x => fdivD x (.int 11)) fun x => modD x (.int m)) (fun d => some (.rt d)) = _
    rw [mul_ok (.inl (by omega))]
    show bndS (bnd (bnd (modD (.int (d2 * d2 + d2 / 7)) (.int 2147483647)) fun x => fdivD x (.int 11)) fun x => modD x (.int m)) _ = _
    rw [mod_ok (by omega)]
    show bndS (modD (.int ((d2 * d2 + d2 / 7) % 2147483647 / 11)) (.int m)) _ = _
    rw [mod_ok hm]
    rfl
  show (match B__law_drawn [some (.scr ns), some (.int k), some (.int m), none] with | some (.nx _) => _ | some (.rt d) => _ | _ => _) = _
  have e : B__law_drawn [some (.scr ns), some (.int k), some (.int m), none] = some (.rt (.int (dr3 d2 m))) := by
    show sq ((fSet 3 _) _) (fun ρ => sq ((fSet 3 _) ρ) _) = _
    rw [e1]
    show sq ((fSet 3 _) [some (.scr ns), some (.int k), some (.int m), some (.int d1)]) _ = _
    rw [e2]
    exact e3
  rw [e]
def menu : List Str := [Str.ofString "a.b", Str.ofString "b", Str.ofString "x.a.b", Str.ofString "y.x.a.b", Str.ofString "c.uk", Str.ofString "uk", Str.ofString "d.c.uk", Str.ofString "e.d.c.uk", Str.ofString "w.ck", Str.ofString "v.w.ck", Str.ofString "ck", Str.ofString "g-1.a.b", Str.ofString "7.b", Str.ofString "p.q"]
theorem name_ok (ns : List Int) (hl : ns.length ≤ 63) (k : Int) : ∃ p ∈ menu, F__law_name [.scr ns, .int k] = some (.ok (.str p)) := by
  obtain ⟨d, h0, h1, hd⟩ := drawn_ok ns hl k 14 (by omega)
  have e : F__law_name [.scr ns, .int k] = (match bndS (bnd (match F__law_drawn [.scr ns, .int k, .int 14] with | some (.ok d) => (some (.ok d) : Option (Rs Dv)) | _ => none) fun i => ixD (.lst (menu.map Dv.str)) i) fun d => some (.rt d) with
    | some (.nx _) => some (.ok .non)
    | some (.rt d) => some (.ok d)
    | _ => none) := by kernel_rfl
  rw [e, hd]
  have hc : d = 0 ∨ d = 1 ∨ d = 2 ∨ d = 3 ∨ d = 4 ∨ d = 5 ∨ d = 6 ∨ d = 7 ∨ d = 8 ∨ d = 9 ∨ d = 10 ∨ d = 11 ∨ d = 12 ∨ d = 13 := by omega
  rcases hc with rfl | rfl | rfl | rfl | rfl | rfl | rfl | rfl | rfl | rfl | rfl | rfl | rfl | rfl
  · exact ⟨Str.ofString "a.b", by simp [menu], by kernel_rfl⟩
  · exact ⟨Str.ofString "b", by simp [menu], by kernel_rfl⟩
  · exact ⟨Str.ofString "x.a.b", by simp [menu], by kernel_rfl⟩
  · exact ⟨Str.ofString "y.x.a.b", by simp [menu], by kernel_rfl⟩
  · exact ⟨Str.ofString "c.uk", by simp [menu], by kernel_rfl⟩
  · exact ⟨Str.ofString "uk", by simp [menu], by kernel_rfl⟩
  · exact ⟨Str.ofString "d.c.uk", by simp [menu], by kernel_rfl⟩
  · exact ⟨Str.ofString "e.d.c.uk", by simp [menu], by kernel_rfl⟩
  · exact ⟨Str.ofString "w.ck", by simp [menu], by kernel_rfl⟩
  · exact ⟨Str.ofString "v.w.ck", by simp [menu], by kernel_rfl⟩
  · exact ⟨Str.ofString "ck", by simp [menu], by kernel_rfl⟩
  · exact ⟨Str.ofString "g-1.a.b", by simp [menu], by kernel_rfl⟩
  · exact ⟨Str.ofString "7.b", by simp [menu], by kernel_rfl⟩
  · exact ⟨Str.ofString "p.q", by simp [menu], by kernel_rfl⟩
def pths : List Str := [Str.ofString "/", Str.ofString "/x", Str.ofString "/x/", Str.ofString "/x/y", Str.ofString "/xy", Str.ofString "/x/y/z.q", Str.ofString "//", Str.ofString "/-_.9", Str.ofString "/x/y/"]
theorem path_ok (ns : List Int) (hl : ns.length ≤ 63) (k : Int) : ∃ p ∈ pths, F__law_path [.scr ns, .int k] = some (.ok (.str p)) := by
  obtain ⟨d, h0, h1, hd⟩ := drawn_ok ns hl k 9 (by omega)
  have e : F__law_path [.scr ns, .int k] = (match bndS (bnd (match F__law_drawn [.scr ns, .int k, .int 9] with | some (.ok d) => (some (.ok d) : Option (Rs Dv)) | _ => none) fun i => ixD (.lst (pths.map Dv.str)) i) fun d => some (.rt d) with
    | some (.nx _) => some (.ok .non)
    | some (.rt d) => some (.ok d)
    | _ => none) := by kernel_rfl
  rw [e, hd]
  have hc : d = 0 ∨ d = 1 ∨ d = 2 ∨ d = 3 ∨ d = 4 ∨ d = 5 ∨ d = 6 ∨ d = 7 ∨ d = 8 := by omega
  rcases hc with rfl | rfl | rfl | rfl | rfl | rfl | rfl | rfl | rfl
  · exact ⟨Str.ofString "/", by simp [pths], by kernel_rfl⟩
  · exact ⟨Str.ofString "/x", by simp [pths], by kernel_rfl⟩
  · exact ⟨Str.ofString "/x/", by simp [pths], by kernel_rfl⟩
  · exact ⟨Str.ofString "/x/y", by simp [pths], by kernel_rfl⟩
  · exact ⟨Str.ofString "/xy", by simp [pths], by kernel_rfl⟩
  · exact ⟨Str.ofString "/x/y/z.q", by simp [pths], by kernel_rfl⟩
  · exact ⟨Str.ofString "//", by simp [pths], by kernel_rfl⟩
  · exact ⟨Str.ofString "/-_.9", by simp [pths], by kernel_rfl⟩
  · exact ⟨Str.ofString "/x/y/", by simp [pths], by kernel_rfl⟩
theorem call3 (F : List Dv → Option (Rs Dv)) {f g k : FnE} {ρ : Ev} {a b c d : Dv} (h : f ρ = some (.ok a)) (h' : g ρ = some (.ok b)) (h'' : k ρ = some (.ok c)) (hF : F [a, b, c] = some (.ok d)) : fCall F 3 (aCons f (aCons g (aCons k aNil))) ρ = some (.ok d) := fCall_of (aCons_of h (aCons_of h' (aCons_of h'' aNil_of))) rfl hF
end G
namespace G
open PySem PySem.Spec PyProof.Rows L2 FD
abbrev bo (k : Bool) : Option (Rs Dv) := some (.ok (.bl k))
def En : List Str := menu ++ [Str.ofString "q"]
theorem seq_true {x y : Str} (h : seq x y = true) : x = y := by
  unfold seq at h
  obtain ⟨⟨a⟩⟩ := x; obtain ⟨⟨b⟩⟩ := y
  simp at h
  rw [h]
theorem seq_refl (x : Str) : seq x x = true := by unfold seq; simp
def okY : Option (Rs Dv) → Bool
  | some (.ok (.bl true)) => true
  | _ => false
theorem okY_eq {o : Option (Rs Dv)} (h : okY o = true) : o = some (.ok (.bl true)) := by
  unfold okY at h; split at h
  · rfl
  · cases h
end G
namespace G
open PySem PySem.Spec PyProof.Rows L2 FD
def nms : List Str := [Str.ofString "n", Str.ofString "safe-a", Str.ofString "own-b", Str.ofString "N_2", Str.ofString "m-1", Str.ofString "safe-"]
def wts : List Str := [Str.ofString "5", Str.ofString "", Str.ofString "a!b~", Str.ofString "x/y?z", Str.ofString "123456789012"]
theorem me {h : Str} (q : h ∈ menu) : h ∈ En := List.mem_append_left _ q
theorem ix_mem {l : List Dv} {d : Int} (h0 : 0 ≤ d) (h1 : d < l.length) : ∃ x ∈ l, ixD (.lst l) (.int d) = some (.ok x) := by
  have h2 : d.toNat < l.length := by omega
  refine ⟨l[d.toNat], List.getElem_mem h2, ?_⟩
  show (match atD l d with | some d => _ | none => _) = _
  unfold atD
  rw [if_pos h0, List.getElem?_eq_getElem h2]
structure Gv (nm w : Str) (H P u l : Dv) (S : Bool) (R : Str) : Prop where
  nm : nm ∈ nms
  w : w ∈ wts
  hh : H = .non ∨ ∃ n ∈ En, H = .str n
  pp : P = .non ∨ ∃ p ∈ pths, P = .str p
  u : u = .non ∨ ∃ i : Int, 0 ≤ i ∧ i < 60 ∧ u = .int i
  l : l = .non ∨ ∃ i : Int, 0 ≤ i ∧ i < 30 ∧ l = .int i
  r : R = Str.ofString "any" ∨ R = Str.ofString "near"
abbrev gvn (nm w : Str) (H P u l : Dv) (S : Bool) (R : Str) : Dv := .tup [.str nm, .str w, H, P, u, l, .bl S, .str R]
def inEn : Option (Rs Dv) → Bool
  | some (.ok (.str z)) => En.any fun q => seq q z
  | _ => false
theorem inEn_eq {o : Option (Rs Dv)} (h : inEn o = true) : ∃ n ∈ En, o = some (.ok (.str n)) := by
  unfold inEn at h
  split at h
  · rename_i z
    obtain ⟨y, hy, ey⟩ := List.any_eq_true.mp h
    have e := seq_true ey
    subst e
    exact ⟨y, hy, rfl⟩
  · cases h
def lastE : FnE := (f2 ixD (fM (splitD) (fVar 2) (aCons (fC (.str ".")) aNil)) (f1 negD (fC (.int 1))))
def tailE : FnE := (fIf (fB (f2 inD (fC (.str ".")) (fVar 2))) (fCut (fVar 2) (oSome (f2 addD (fM sixD (fVar 2) (aCons (fC (.str ".")) aNil)) (fC (.int 1)))) oNone) (fVar 2))
theorem last_all : (menu.all fun h => inEn (lastE [none, none, some (.str h)])) = true := by kernel_rfl
theorem tail_all : (menu.all fun h => inEn (tailE [none, none, some (.str h)])) = true := by kernel_rfl
theorem last_y {h : Str} (q : h ∈ menu) {a b : Option Dv} {r : Ev} : ∃ n ∈ En, lastE (a :: b :: some (.str h) :: r) = some (.ok (.str n)) := inEn_eq (all_mem (p := fun h => inEn (lastE [none, none, some (.str h)])) last_all q)
theorem tail_y {h : Str} (q : h ∈ menu) {a b : Option Dv} {r : Ev} : ∃ n ∈ En, tailE (a :: b :: some (.str h) :: r) = some (.ok (.str n)) := inEn_eq (all_mem (p := fun h => inEn (tailE [none, none, some (.str h)])) tail_all q)
theorem given_ok (ns : List Int) (hl : ns.length ≤ 63) (z : Int) {h : Str} (hh : h ∈ menu) : ∃ nm w H P u l S R, Gv nm w H P u l S R ∧ F__law_given [.scr ns, .int z, .str h] = some (.ok (gvn nm w H P u l S R)) := by
  obtain ⟨d0, a0, b0, e0⟩ := drawn_ok ns hl z 7 (by omega)
  obtain ⟨d1, a1, b1, e1⟩ := drawn_ok ns hl (z + 1) 5 (by omega)
  obtain ⟨d2, a2, b2, e2⟩ := drawn_ok ns hl (z + 2) 6 (by omega)
  obtain ⟨d4, a4, b4, e4⟩ := drawn_ok ns hl (z + 4) 3 (by omega)
  obtain ⟨d6, a6, b6, e6⟩ := drawn_ok ns hl (z + 6) 3 (by omega)
  obtain ⟨d7, a7, b7, e7⟩ := drawn_ok ns hl (z + 7) 60 (by omega)
  obtain ⟨d8, a8, b8, e8⟩ := drawn_ok ns hl (z + 8) 3 (by omega)
  obtain ⟨d9, a9, b9, e9⟩ := drawn_ok ns hl (z + 9) 30 (by omega)
  obtain ⟨d10, a10, b10, e10⟩ := drawn_ok ns hl (z + 10) 2 (by omega)
  obtain ⟨d11, a11, b11, e11⟩ := drawn_ok ns hl (z + 11) 2 (by omega)
  obtain ⟨n3, hn3, e3⟩ := name_ok ns hl (z + 3)
  obtain ⟨p5, hp5, e5⟩ := path_ok ns hl (z + 5)
  obtain ⟨x0, m0, i0⟩ := ix_mem (l := [.str "n", .str "safe-a", .str "own-b", .str "N_2", .str "m-1", .str "safe-", .str "n"]) a0 b0
  obtain ⟨x1, m1, i1⟩ := ix_mem (l := [.str "5", .str "", .str "a!b~", .str "x/y?z", .str "123456789012"]) a1 b1
  obtain ⟨L, hL, eL⟩ := last_y hh (a := some (.scr ns)) (b := some (.int z)) (r := [some x0, some x1, none, none, none, none, none, none])
  obtain ⟨TL, hT, eT⟩ := tail_y hh (a := some (.scr ns)) (b := some (.int z)) (r := [some x0, some x1, none, none, none, none, none, none])
  obtain ⟨x2, m2, i2⟩ := ix_mem (l := [.non, .non, .str h, .str L, .str n3, .str TL]) a2 b2
  obtain ⟨x4, m4, i4⟩ := ix_mem (l := [.non, .str "/", .str p5]) a4 b4
  obtain ⟨x6, m6, i6⟩ := ix_mem (l := [.non, .non, .int d7]) a6 b6
  obtain ⟨x8, m8, i8⟩ := ix_mem (l := [.non, .non, .int d9]) a8 b8
  obtain ⟨x11, m11, i11⟩ := ix_mem (l := [.str "any", .str "near"]) a11 b11
  have g0 : ∃ nm ∈ nms, x0 = .str nm := by
    simp only [List.mem_cons, List.not_mem_nil, or_false] at m0
    rcases m0 with rfl | rfl | rfl | rfl | rfl | rfl | rfl <;> exact ⟨_, by simp [nms], rfl⟩
  have g1 : ∃ nm ∈ wts, x1 = .str nm := by
    simp only [List.mem_cons, List.not_mem_nil, or_false] at m1
    rcases m1 with rfl | rfl | rfl | rfl | rfl <;> exact ⟨_, by simp [wts], rfl⟩
  have g2 : x2 = .non ∨ ∃ n ∈ En, x2 = .str n := by
    simp only [List.mem_cons, List.not_mem_nil, or_false] at m2
    rcases m2 with rfl | rfl | rfl | rfl | rfl | rfl
    · exact .inl rfl
    · exact .inl rfl
    · exact .inr ⟨_, me hh, rfl⟩
    · exact .inr ⟨_, hL, rfl⟩
    · exact .inr ⟨_, me hn3, rfl⟩
    · exact .inr ⟨_, hT, rfl⟩
  have g4 : x4 = .non ∨ ∃ n ∈ pths, x4 = .str n := by
    simp only [List.mem_cons, List.not_mem_nil, or_false] at m4
    rcases m4 with rfl | rfl | rfl
    · exact .inl rfl
    · exact .inr ⟨_, by simp [pths], rfl⟩
    · exact .inr ⟨_, hp5, rfl⟩
  have g6 : x6 = .non ∨ ∃ i : Int, 0 ≤ i ∧ i < 60 ∧ x6 = .int i := by
    simp only [List.mem_cons, List.not_mem_nil, or_false] at m6
    rcases m6 with rfl | rfl | rfl
    · exact .inl rfl
    · exact .inl rfl
    · exact .inr ⟨_, a7, b7, rfl⟩
  have g8 : x8 = .non ∨ ∃ i : Int, 0 ≤ i ∧ i < 30 ∧ x8 = .int i := by
    simp only [List.mem_cons, List.not_mem_nil, or_false] at m8
    rcases m8 with rfl | rfl | rfl
    · exact .inl rfl
    · exact .inl rfl
    · exact .inr ⟨_, a9, b9, rfl⟩
  have g11 : ∃ R, (R = Str.ofString "any" ∨ R = Str.ofString "near") ∧ x11 = .str R := by
    simp only [List.mem_cons, List.not_mem_nil, or_false] at m11
    rcases m11 with rfl | rfl
    · exact ⟨_, .inl rfl, rfl⟩
    · exact ⟨_, .inr rfl, rfl⟩
  obtain ⟨nm, hnm, rfl⟩ := g0
  obtain ⟨w, hw, rfl⟩ := g1
  obtain ⟨R, hR, rfl⟩ := g11
  refine ⟨nm, w, x2, x4, x6, x8, d10 == 0, R, ⟨hnm, hw, g2, g4, g6, g8, hR⟩, ?_⟩
  have eB : B__law_given = (fSeq (fSet 3 (f2 ixD (fLst (aCons (fC (.str "n")) (aCons (fC (.str "safe-a")) (aCons (fC (.str "own-b")) (aCons (fC (.str "N_2")) (aCons (fC (.str "m-1")) (aCons (fC (.str "safe-")) (aCons (fC (.str "n")) aNil)))))))) (fCall F__law_drawn 3 (aCons (fVar 0) (aCons (fVar 1) (aCons (fC (.int 7)) aNil)))))) (fSeq (fSet 4 (f2 ixD (fLst (aCons (fC (.str "5")) (aCons (fC (.str "")) (aCons (fC (.str "a!b~")) (aCons (fC (.str "x/y?z")) (aCons (fC (.str "123456789012")) aNil)))))) (fCall F__law_drawn 3 (aCons (fVar 0) (aCons (f2 addD (fVar 1) (fC (.int 1))) (aCons (fC (.int 5)) aNil)))))) (fOwn 5 (aCons (fC .non) (aCons (fC .non) (aCons (fVar 2) (aCons lastE (aCons (fCall F__law_name 2 (aCons (fVar 0) (aCons (f2 addD (fVar 1) (fC (.int 3))) aNil))) aNil))))) (oSeq (oApp tailE) (oSeq (oSet 6 (f2 ixD (fLst (aCons (fC .non) (aCons (fC (.str "/")) (aCons (fCall F__law_path 2 (aCons (fVar 0) (aCons (f2 addD (fVar 1) (fC (.int 5))) aNil))) aNil)))) (fCall F__law_drawn 3 (aCons (fVar 0) (aCons (f2 addD (fVar 1) (fC (.int 4))) (aCons (fC (.int 3)) aNil)))))) (oSeq (oSet 7 (f2 ixD (fLst (aCons (fC .non) (aCons (fC .non) (aCons (fCall F__law_drawn 3 (aCons (fVar 0) (aCons (f2 addD (fVar 1) (fC (.int 7))) (aCons (fC (.int 60)) aNil)))) aNil)))) (fCall F__law_drawn 3 (aCons (fVar 0) (aCons (f2 addD (fVar 1) (fC (.int 6))) (aCons (fC (.int 3)) aNil)))))) (oSeq (oSet 8 (f2 ixD (fLst (aCons (fC .non) (aCons (fC .non) (aCons (fCall F__law_drawn 3 (aCons (fVar 0) (aCons (f2 addD (fVar 1) (fC (.int 9))) (aCons (fC (.int 30)) aNil)))) aNil)))) (fCall F__law_drawn 3 (aCons (fVar 0) (aCons (f2 addD (fVar 1) (fC (.int 8))) (aCons (fC (.int 3)) aNil)))))) (oSeq (oSet 9 (f2 ixD (fLst (aCons (fC (.str "any")) (aCons (fC (.str "near")) aNil))) (fCall F__law_drawn 3 (aCons (fVar 0) (aCons (f2 addD (fVar 1) (fC (.int 11))) (aCons (fC (.int 2)) aNil)))))) (oSeq (oSet 10 (f2 eqX (fCall F__law_drawn 3 (aCons (fVar 0) (aCons (f2 addD (fVar 1) (fC (.int 10))) (aCons (fC (.int 2)) aNil)))) (fC (.int 0)))) (oRet 5 (fTup (aCons (fVar 3) (aCons (fVar 4) (aCons (f2 ixD (fVar 5) (fCall F__law_drawn 3 (aCons (fVar 0) (aCons (f2 addD (fVar 1) (fC (.int 2))) (aCons (fC (.int 6)) aNil))))) (aCons (fVar 6) (aCons (fVar 7) (aCons (fVar 8) (aCons (fVar 10) (aCons (fVar 9) aNil))))))))))))))))))) := rfl
  unfold F__law_given runF
  rw [eB]
  simp [fSeq, sq, fRet, fSet, bndS, bnd, fCall, aCons, aNil, fVar, fC, f2, fTup, fLst, fOwn, oSeq, oApp, oSet, oRet, bndO, addD, e0, e1, e2, e3, e4, e5, e6, e7, e8, e9, e10, e11, i0, i1, i2, i4, i6, i8, i11, eL, eT, eqX, eqS]
end G
namespace G
open PySem PySem.Spec PyProof.Rows L2 FD
theorem s_len (a b : Str) : (a ++ b).length = a.length + b.length := Array.size_append
theorem s_assoc (a b c : Str) : a ++ b ++ c = a ++ (b ++ c) := by
  show Str.mk (a.cps ++ b.cps ++ c.cps) = Str.mk (a.cps ++ (b.cps ++ c.cps))
  rw [Array.append_assoc]
theorem s_nil (a : Str) : a ++ Str.ofString "" = a := by
  show Str.mk (a.cps ++ #[]) = a
  rw [Array.append_empty]
def step (t : Str) (o : Option Str) : Str := match o with
  | none => t
  | some y => t ++ Str.ofString "; " ++ y
theorem step_len (t : Str) (o : Option Str) (B : Nat) (h : ∀ y, o = some y → y.length ≤ B) : (step t o).length ≤ t.length + 2 + B := by
  cases o with
  | none => show t.length ≤ _; omega
  | some y =>
    have := h y rfl
    show (t ++ Str.ofString "; " ++ y).length ≤ _
    rw [s_len, s_len]
    have e : (Str.ofString "; ").length = 2 := by decide
    omega
theorem join_fold (sep : Str) : ∀ (l : List Str) (x : Str), Txt.join sep (x :: l) = l.foldl (fun t y => t ++ sep ++ y) x
  | [], x => rfl
  | y :: l, x => join_fold sep l (x ++ sep ++ y)
theorem fold_opt (t : Str) (o : Option Str) (l : List Str) : (o.toList ++ l).foldl (fun t y => t ++ Str.ofString "; " ++ y) t = l.foldl (fun t y => t ++ Str.ofString "; " ++ y) (step t o) := by
  cases o <;> rfl
theorem texts_map : ∀ l : List Str, texts (l.map Dv.str) = some l
  | [] => rfl
  | x :: l => by
    show (match texts (l.map Dv.str) with | some xs => some (x :: xs) | none => none) = _
    rw [texts_map l]
theorem join_sum (sep : Str) (B : Nat) : ∀ (l : List Str) (n : Nat), (∀ t ∈ l, t.length ≤ B) → l.foldl (fun a t => a + t.length + sep.length) n ≤ n + l.length * (B + sep.length)
  | [], n, _ => by simp
  | t :: l, n, h => by
    have ih := join_sum sep B l (n + t.length + sep.length) fun x hx => h x (List.mem_cons_of_mem _ hx)
    have h0 := h t List.mem_cons_self
    show l.foldl _ (n + t.length + sep.length) ≤ _
    rw [List.length_cons, Nat.succ_mul]
    omega
theorem join_ok {sep : Str} {l : List Str} (h : ∀ t ∈ l, t.length ≤ 20000) (hl : l.length ≤ 10) (hs : sep.length ≤ 10) : JoinOk sep l = true := by
  have e := join_sum sep 20000 l 0 h
  have e2 : l.length * (20000 + sep.length) ≤ 10 * (20000 + 10) := Nat.mul_le_mul hl (by omega)
  unfold JoinOk Builtin.Str.tooLong
  rw [List.foldl_toArray]
  have e3 : ¬ (l.foldl (fun a t => a + t.length + sep.length) 0 > sizeLine) := by
    have : sizeLine = 16777216 := by decide
    omega
  simp only [e3]
  rfl
def eS : Option Str → Dv
  | none => .non
  | some x => .str x
def eO : Option Int → Dv
  | none => .non
  | some x => .int x
def is (i : Int) : Str := Str.ofString (toString i)
theorem is_len {i : Int} (h0 : 0 ≤ i) (h1 : i ≤ 9999) : (is i).length ≤ 10001 := by
  have := PyProof.Rows.len_str_of_int i
  unfold is
  omega
theorem str_i {i : Int} (h0 : 0 ≤ i) (h1 : i ≤ 9999) : strD [.int i] = some (.ok (.str (is i))) := by
  show (if i.natAbs.log2 < 1920 then _ else none) = _
  rw [if_pos]
  · rfl
  · have e : i.natAbs < 2 ^ 1920 := Nat.lt_of_lt_of_le (show i.natAbs < 2 ^ 14 by omega) (Nat.pow_le_pow_right (by decide) (by decide))
    by_cases z : i.natAbs = 0
    · rw [z]; decide
    · exact (Nat.log2_lt z).mpr e
structure Vv (nm w : Str) (h p : Option Str) (u l : Option Int) (R : Str) : Prop where
  nm : nm.length ≤ 50
  w : w.length ≤ 50
  h : ∀ x, h = some x → x.length ≤ 50
  p : ∀ x, p = some x → x.length ≤ 50
  u : ∀ i, u = some i → 0 ≤ i ∧ i ≤ 9999
  l : ∀ i, l = some i → 0 ≤ i ∧ i ≤ 9999
abbrev gv (nm w : Str) (h p : Option Str) (u l : Option Int) (S : Bool) (R : Str) : Dv := .tup [.str nm, .str w, eS h, eS p, eO u, eO l, .bl S, .str R]
def oS (pre : String) (h : Option Str) : Option Str := h.map fun x => Str.ofString pre ++ x
def oI (pre : String) (h : Option Int) : Option Str := h.map fun x => Str.ofString pre ++ is x
def oB (x : String) (b : Bool) : Option Str := if b then some (Str.ofString x) else none
def T0 (nm w : Str) : Str := nm ++ Str.ofString "=" ++ w
def nearB (R : Str) : Bool := seq R (Str.ofString "near")
def T (nm w : Str) (h p : Option Str) (u l : Option Int) (S : Bool) (R : Str) : Str := step (step (step (step (step (step (T0 nm w) (oS "for " h)) (oS "under " p)) (oI "until " u)) (oI "lasts " l)) (oB "safe" S)) (oB "near" (nearB R))
theorem add_s {x y : Str} (h : x.length + y.length ≤ 100000) : addD (.str x) (.str y) = some (.ok (.str (x ++ y))) := by
  show (if x.length + y.length ≤ 100000 then _ else none) = _
  rw [if_pos h]
theorem addT_s {x y : Str} (h : x.length + y.length ≤ 100000) : addT (.str x) (.str y) = some (.ok (.str (x ++ y))) := add_s h
theorem oOpt {c : FnB} {e : FnE} {g : FnO2} {ρ : Ev} {ds : List Dv} {o : Option Str} (hc : c ρ = some (.ok o.isSome)) (he : ∀ y, o = some y → e ρ = some (.ok (.str y))) (hl : ds.length < 100000) : oSeq (oIf c (oApp e) oNil) g ρ ds = g ρ (ds ++ o.toList.map Dv.str) := by
  unfold oSeq oIf
  rw [hc]
  cases o with
  | none => show g ρ ds = _; simp
  | some y =>
    show (match oApp e ρ ds with | some (.nx ρ' ds') => g ρ' ds' | o => o) = _
    unfold oApp
    rw [if_pos hl, he y rfl]
    rfl
theorem len_ol (o : Option Str) : o.toList.length ≤ 1 := by cases o <;> simp
section
variable {nm w : Str} {h p : Option Str} {u l : Option Int} {S : Bool} {R : Str}
theorem oS_l {pre : String} (hp : (Str.ofString pre).length ≤ 10) (hh : ∀ x, h = some x → x.length ≤ 50) : ∀ y, oS pre h = some y → y.length ≤ 60 := by
  intro y hy
  cases h with
  | none => cases hy
  | some x => cases hy; rw [s_len]; have := hh x rfl; omega
theorem oI_l {pre : String} (hp : (Str.ofString pre).length ≤ 10) (hh : ∀ x, u = some x → 0 ≤ x ∧ x ≤ 9999) : ∀ y, oI pre u = some y → y.length ≤ 10020 := by
  intro y hy
  cases u with
  | none => cases hy
  | some x => cases hy; rw [s_len]; have := is_len (hh x rfl).1 (hh x rfl).2; omega
theorem oB_l {x : String} {b : Bool} (hp : (Str.ofString x).length ≤ 10) : ∀ y, oB x b = some y → y.length ≤ 60 := by
  intro y hy
  cases b with
  | false => cases hy
  | true => cases hy; omega
theorem txt_given (v : Vv nm w h p u l R) (hg : F_is_given [gv nm w h p u l S R] = bo true) : F_given_text [gv nm w h p u l S R] = some (.ok (.str (T nm w h p u l S R))) := by
  have l1 := v.nm
  have l2 := v.w
  have lq : (Str.ofString "=").length = 1 := by decide
  have ng : F_need_given [gv nm w h p u l S R] = some (.ok .non) := by simp [F_need_given, runF, B_need_given, fSeq, sq, fIfS, fRet, fRetN, fDrop, fSet, bndS, bnd, bOr, bAnd, bNot, fB, toB, fCall, fCallE, aCons, aNil, fVar, fC, f1, f2, ixD, atD, vOr, vAnd, vNot, fIf, fTup, fLst, fB1, fM, fRaise, fNever, isN, notN, isiD, tbBool, tbTup, tbStr, tbInt, hg]
  let E : Ev := [some (gv nm w h p u l S R), none]
  have a0 : (aCons (f2 addD (f2 addD (f2 ixD (fVar 0) (fC (.int 0))) (fC (.str "="))) (f2 ixD (fVar 0) (fC (.int 1)))) aNil) E = some (.ok [.str (T0 nm w)]) := by
    refine aCons_of ?_ aNil_of
    refine (f2_of ((f2_of (x := .str nm) (y := .str "=") rfl rfl).trans (add_s (by omega))) (y := .str w) rfl).trans ?_
    exact add_s (by rw [s_len]; omega)
  have k1 : fB (f2 notN (f2 ixD (fVar 0) (fC (.int 2))) (fC .non)) E = some (.ok (oS "for " h).isSome) := by cases h <;> rfl
  have k2 : fB (f2 notN (f2 ixD (fVar 0) (fC (.int 3))) (fC .non)) E = some (.ok (oS "under " p).isSome) := by cases p <;> rfl
  have k3 : fB (f2 notN (f2 ixD (fVar 0) (fC (.int 4))) (fC .non)) E = some (.ok (oI "until " u).isSome) := by cases u <;> rfl
  have k4 : fB (f2 notN (f2 ixD (fVar 0) (fC (.int 5))) (fC .non)) E = some (.ok (oI "lasts " l).isSome) := by cases l <;> rfl
  have k5 : fB (f2 ixD (fVar 0) (fC (.int 6))) E = some (.ok (oB "safe" S).isSome) := by cases S <;> rfl
  have k6 : fB (f2 eqX (f2 ixD (fVar 0) (fC (.int 7))) (fC (.str "near"))) E = some (.ok (oB "near" (nearB R)).isSome) := by
    have : fB (f2 eqX (f2 ixD (fVar 0) (fC (.int 7))) (fC (.str "near"))) E = some (.ok (nearB R)) := rfl
    rw [this]
    cases nearB R <;> rfl
  have e1 : ∀ y, oS "for " h = some y → f2 addD (fC (.str "for ")) (f2 ixD (fVar 0) (fC (.int 2))) E = some (.ok (.str y)) := by
    intro y hy
    cases h with
    | none => cases hy
    | some x => cases hy; exact (f2_of (x := .str "for ") (y := .str x) rfl rfl).trans (add_s (by have := v.h x rfl; have : (Str.ofString "for ").length = 4 := (by decide); omega))
  have e2 : ∀ y, oS "under " p = some y → f2 addD (fC (.str "under ")) (f2 ixD (fVar 0) (fC (.int 3))) E = some (.ok (.str y)) := by
    intro y hy
    cases p with
    | none => cases hy
    | some x => cases hy; exact (f2_of (x := .str "under ") (y := .str x) rfl rfl).trans (add_s (by have := v.p x rfl; have : (Str.ofString "under ").length = 6 := (by decide); omega))
  have e3 : ∀ y, oI "until " u = some y → f2 addD (fC (.str "until ")) (fB1 strD (aCons (f2 ixD (fVar 0) (fC (.int 4))) aNil)) E = some (.ok (.str y)) := by
    intro y hy
    cases u with
    | none => cases hy
    | some x =>
      cases hy
      have := v.u x rfl
      exact (f2_of (x := .str "until ") rfl ((fB1_of (aCons_of (x := .int x) rfl aNil_of)).trans (str_i this.1 this.2))).trans (add_s (by have := is_len this.1 this.2; have : (Str.ofString "until ").length = 6 := (by decide); omega))
  have e4 : ∀ y, oI "lasts " l = some y → f2 addD (fC (.str "lasts ")) (fB1 strD (aCons (f2 ixD (fVar 0) (fC (.int 5))) aNil)) E = some (.ok (.str y)) := by
    intro y hy
    cases l with
    | none => cases hy
    | some x =>
      cases hy
      have := v.l x rfl
      exact (f2_of (x := .str "lasts ") rfl ((fB1_of (aCons_of (x := .int x) rfl aNil_of)).trans (str_i this.1 this.2))).trans (add_s (by have := is_len this.1 this.2; have : (Str.ofString "lasts ").length = 6 := (by decide); omega))
  have e5 : ∀ y, oB "safe" S = some y → fC (.str "safe") E = some (.ok (.str y)) := by
    intro y hy
    cases S with
    | false => cases hy
    | true => cases hy; rfl
  have e6 : ∀ y, oB "near" (nearB R) = some y → fC (.str "near") E = some (.ok (.str y)) := by
    intro y hy
    unfold oB at hy
    split at hy
    · cases hy; rfl
    · cases hy
  let L : List Str := (oS "for " h).toList ++ ((oS "under " p).toList ++ ((oI "until " u).toList ++ ((oI "lasts " l).toList ++ ((oB "safe" S).toList ++ ((oB "near" (nearB R)).toList ++ [])))))
  have f1 := len_ol (oS "for " h)
  have f2' := len_ol (oS "under " p)
  have f3 := len_ol (oI "until " u)
  have f4 := len_ol (oI "lasts " l)
  have f5 := len_ol (oB "safe" S)
  have f6 := len_ol (oB "near" (nearB R))
  have hL : ∀ t ∈ T0 nm w :: L, t.length ≤ 20000 := by
    intro t ht
    rcases List.mem_cons.mp ht with rfl | ht
    · unfold T0; rw [s_len, s_len]; omega
    · simp only [L, List.mem_append, Option.mem_toList, List.not_mem_nil, or_false] at ht
      rcases ht with ht | ht | ht | ht | ht | ht
      · have := oS_l (by decide) v.h t ht; omega
      · have := oS_l (by decide) v.p t ht; omega
      · have := oI_l (by decide) v.u t ht; omega
      · have := oI_l (by decide) v.l t ht; omega
      · have := oB_l (by decide) t ht; omega
      · have := oB_l (by decide) t ht; omega
  have hlen : (T0 nm w :: L).length ≤ 10 := by simp [L]; omega
  have jn : Txt.join (Str.ofString "; ") (T0 nm w :: L) = T nm w h p u l S R := by
    rw [join_fold]
    show L.foldl _ _ = _
    simp only [L]
    rw [fold_opt, fold_opt, fold_opt, fold_opt, fold_opt, fold_opt]
    rfl
  have hr : oRet 1 (fM (joinD) (fC (.str "; ")) (aCons (fVar 1) aNil)) E ((T0 nm w :: L).map Dv.str) = some (.rt (.str (T nm w h p u l S R))) := by
    have z : fM (joinD) (fC (.str "; ")) (aCons (fVar 1) aNil) (E.set 1 (some (.lst ((T0 nm w :: L).map Dv.str)))) = some (.ok (.str (T nm w h p u l S R))) := by
      show joinD (Str.ofString "; ") [.lst ((T0 nm w :: L).map Dv.str)] = _
      show (match texts ((T0 nm w :: L).map Dv.str) with | some ts => if JoinOk (Str.ofString "; ") ts = true then some (Rs.ok (Dv.str (Txt.join (Str.ofString "; ") ts))) else none | none => none) = _
      rw [texts_map]
      dsimp only
      rw [if_pos (join_ok hL hlen (by decide)), jn]
    unfold oRet
    rw [z]
    rfl
  have hrun : B_given_text E = some (.rt (.str (T nm w h p u l S R))) := by
    unfold B_given_text
    rw [fSeq_nx (show fDrop (fCall F_need_given 1 (aCons (fVar 0) aNil)) E = some (.nx E) by
      unfold fDrop
      rw [call1 F_need_given (f := fVar 0) (ρ := E) (a := gv nm w h p u l S R) rfl ng]
      rfl)]
    unfold fOwn
    rw [a0]
    show (if [Dv.str (T0 nm w)].length ≤ 100000 then _ else none) = _
    have eE : E.set 1 none = E := rfl
    rw [eE]
    rw [oOpt k1 e1 (by simp), oOpt k2 e2 (by simp; omega), oOpt k3 e3 (by simp; omega), oOpt k4 e4 (by simp; omega), oOpt k5 e5 (by simp; omega), oOpt k6 e6 (by simp; omega)]
    have eL : [Dv.str (T0 nm w)] ++ (oS "for " h).toList.map Dv.str ++ (oS "under " p).toList.map Dv.str ++ (oI "until " u).toList.map Dv.str ++ (oI "lasts " l).toList.map Dv.str ++ (oB "safe" S).toList.map Dv.str ++ (oB "near" (nearB R)).toList.map Dv.str = (T0 nm w :: L).map Dv.str := by
      simp [L]
    rw [eL, hr]
    rfl
  exact run_rt hrun
end
end G
namespace G
open PySem PySem.Spec PyProof.Rows L2 FD
theorem rt_of {f : FnE} {ρ : Ev} {d : Dv} (h : f ρ = some (.ok d)) : fRet f ρ = some (.rt d) := by unfold fRet; rw [h]; rfl
section
variable {nm w : Str} {h p : Option Str} {u l : Option Int} {S : Bool} {R : Str}
def EL (nm w : Str) (h p : Option Str) (u l : Option Int) (S : Bool) (R : Str) (t : Str) (a b : Option Dv) : Ev := [some (gv nm w h p u l S R), some (.str nm), some (.str w), some (eS h), some (eS p), some (eO u), some (eO l), some (.bl S), some (.str R), some (.str t), a, b]
theorem lstep_non {t wd : Str} {a b : Option Dv} {ds : List Dv} : loopG (gP 10 11) [11, 10] b__law_text_0 (.tup [.str wd, .non] :: ds) (EL nm w h p u l S R t a b) = loopG (gP 10 11) [11, 10] b__law_text_0 ds (EL nm w h p u l S R t (some (.str wd)) (some .non)) := rfl
theorem lstep_some {t wd y : Str} {d : Dv} {a b : Option Dv} {ds : List Dv} (hn : notN d .non = bo true) (hs : strA [d] = some (.ok (.str y))) (hl : t.length + 2 + wd.length + 1 + y.length ≤ 100000) :
    loopG (gP 10 11) [11, 10] b__law_text_0 (.tup [.str wd, d] :: ds) (EL nm w h p u l S R t a b) = loopG (gP 10 11) [11, 10] b__law_text_0 ds (EL nm w h p u l S R (t ++ Str.ofString "; " ++ wd ++ Str.ofString " " ++ y) (some (.str wd)) (some d)) := by
  have e2 : (Str.ofString "; ").length = 2 := by decide
  have e1 : (Str.ofString " ").length = 1 := by decide
  have hb : b__law_text_0 (EL nm w h p u l S R t (some (.str wd)) (some d)) = some (.nx (EL nm w h p u l S R (t ++ Str.ofString "; " ++ wd ++ Str.ofString " " ++ y) (some (.str wd)) (some d))) := by
    have c : fB (f2 notN (fVar 11) (fC .non)) (EL nm w h p u l S R t (some (.str wd)) (some d)) = some (.ok true) := fB_of hn
    have z : f2 addT (f2 addT (f2 addT (f2 addT (fVar 9) (fC (.str "; "))) (fVar 10)) (fC (.str " "))) (fB1 strA (aCons (fVar 11) aNil)) (EL nm w h p u l S R t (some (.str wd)) (some d)) = some (.ok (.str (t ++ Str.ofString "; " ++ wd ++ Str.ofString " " ++ y))) := by
      refine (f2_of ((f2_of ((f2_of ((f2_of (x := .str t) (y := .str "; ") rfl rfl).trans (addT_s (by omega))) (y := .str wd) rfl).trans (addT_s (by rw [s_len]; omega))) (y := .str " ") rfl).trans (addT_s (by rw [s_len, s_len]; omega))) ((fB1_of (aCons_of (x := d) rfl aNil_of)).trans hs)).trans ?_
      exact addT_s (by rw [s_len, s_len, s_len]; omega)
    unfold b__law_text_0 fIfS
    rw [c]
    exact fSet_nx z rfl
  show (match b__law_text_0 (EL nm w h p u l S R t (some (.str wd)) (some d)) with
    | some (.nx ρ') => loopG (gP 10 11) [11, 10] b__law_text_0 ds ρ'
    | o => o) = _
  rw [hb]
theorem txt_eq (t wd wd' y : Str) (hw : wd ++ Str.ofString " " = wd') : t ++ Str.ofString "; " ++ wd ++ Str.ofString " " ++ y = t ++ Str.ofString "; " ++ (wd' ++ y) := by
  rw [s_assoc (t ++ Str.ofString "; ") wd, hw, s_assoc (t ++ Str.ofString "; ") wd']
theorem sstep {t wd wd' : Str} {o : Option Str} {a b : Option Dv} {ds : List Dv} (hw : wd ++ Str.ofString " " = wd') (ho : ∀ x, o = some x → x.length ≤ 50) (hl : t.length ≤ 80000) (hwl : wd.length ≤ 10) :
    ∃ a' b', loopG (gP 10 11) [11, 10] b__law_text_0 (.tup [.str wd, eS o] :: ds) (EL nm w h p u l S R t a b) = loopG (gP 10 11) [11, 10] b__law_text_0 ds (EL nm w h p u l S R (step t (o.map fun x => wd' ++ x)) a' b') := by
  cases o with
  | none => exact ⟨_, _, lstep_non⟩
  | some x =>
    have := ho x rfl
    refine ⟨some (.str wd), some (.str x), (lstep_some (d := .str x) (y := x) rfl rfl (by omega)).trans ?_⟩
    rw [txt_eq t wd wd' x hw]; rfl
theorem istep {t wd wd' : Str} {o : Option Int} {a b : Option Dv} {ds : List Dv} (hw : wd ++ Str.ofString " " = wd') (ho : ∀ x, o = some x → 0 ≤ x ∧ x ≤ 9999) (hl : t.length ≤ 80000) (hwl : wd.length ≤ 10) :
    ∃ a' b', loopG (gP 10 11) [11, 10] b__law_text_0 (.tup [.str wd, eO o] :: ds) (EL nm w h p u l S R t a b) = loopG (gP 10 11) [11, 10] b__law_text_0 ds (EL nm w h p u l S R (step t (o.map fun x => wd' ++ is x)) a' b') := by
  cases o with
  | none => exact ⟨_, _, lstep_non⟩
  | some x =>
    have := ho x rfl
    have := is_len this.1 this.2
    have e : strA [.int x] = some (.ok (.str (is x))) := str_i (ho x rfl).1 (ho x rfl).2
    refine ⟨some (.str wd), some (.int x), (lstep_some (d := .int x) (y := is x) rfl e (by omega)).trans ?_⟩
    rw [txt_eq t wd wd' (is x) hw]; rfl
theorem txt_law (v : Vv nm w h p u l R) : F__law_text [gv nm w h p u l S R] = some (.ok (.str (T nm w h p u l S R))) := by
  have l1 := v.nm
  have l2 := v.w
  have lq : (Str.ofString "=").length = 1 := by decide
  have b0 : (T0 nm w).length ≤ 200 := by unfold T0; rw [s_len, s_len]; omega
  have b1 := step_len (T0 nm w) (oS "for " h) 60 (oS_l (by decide) v.h)
  have b2 := step_len (step (T0 nm w) (oS "for " h)) (oS "under " p) 60 (oS_l (by decide) v.p)
  have b3 := step_len (step (step (T0 nm w) (oS "for " h)) (oS "under " p)) (oI "until " u) 10020 (oI_l (by decide) v.u)
  have b4 := step_len (step (step (step (T0 nm w) (oS "for " h)) (oS "under " p)) (oI "until " u)) (oI "lasts " l) 10020 (oI_l (by decide) v.l)
  obtain ⟨a1, c1, e1⟩ := sstep (nm := nm) (w := w) (h := h) (p := p) (u := u) (l := l) (S := S) (R := R) (t := T0 nm w) (wd := Str.ofString "for") (wd' := Str.ofString "for ") (o := h) (a := none) (b := none) (ds := [.tup [.str "under", eS p], .tup [.str "until", eO u], .tup [.str "lasts", eO l]]) (by kernel_rfl) v.h (by omega) (by decide)
  obtain ⟨a2, c2, e2⟩ := sstep (nm := nm) (w := w) (h := h) (p := p) (u := u) (l := l) (S := S) (R := R) (t := step (T0 nm w) (oS "for " h)) (wd := Str.ofString "under") (wd' := Str.ofString "under ") (o := p) (a := a1) (b := c1) (ds := [.tup [.str "until", eO u], .tup [.str "lasts", eO l]]) (by kernel_rfl) v.p (by omega) (by decide)
  obtain ⟨a3, c3, e3⟩ := istep (nm := nm) (w := w) (h := h) (p := p) (u := u) (l := l) (S := S) (R := R) (t := step (step (T0 nm w) (oS "for " h)) (oS "under " p)) (wd := Str.ofString "until") (wd' := Str.ofString "until ") (o := u) (a := a2) (b := c2) (ds := [.tup [.str "lasts", eO l]]) (by kernel_rfl) v.u (by omega) (by decide)
  obtain ⟨a4, c4, e4⟩ := istep (nm := nm) (w := w) (h := h) (p := p) (u := u) (l := l) (S := S) (R := R) (t := step (step (step (T0 nm w) (oS "for " h)) (oS "under " p)) (oI "until " u)) (wd := Str.ofString "lasts") (wd' := Str.ofString "lasts ") (o := l) (a := a3) (b := c3) (ds := []) (by kernel_rfl) v.l (by omega) (by decide)
  let t4 : Str := step (step (step (step (T0 nm w) (oS "for " h)) (oS "under " p)) (oI "until " u)) (oI "lasts " l)
  have t4l : t4.length ≤ 90000 := by show (step (step (step (step (T0 nm w) (oS "for " h)) (oS "under " p)) (oI "until " u)) (oI "lasts " l)).length ≤ _; omega
  have hloop : loopG (gP 10 11) [11, 10] b__law_text_0 [.tup [.str "for", eS h], .tup [.str "under", eS p], .tup [.str "until", eO u], .tup [.str "lasts", eO l]] (EL nm w h p u l S R (T0 nm w) none none) = some (.nx (EL nm w h p u l S R t4 none none)) :=
    e1.trans (e2.trans (e3.trans (e4.trans rfl)))
  have hsrc : (fun ρ => bnd ((aCons (fTup (aCons (fC (.str "for")) (aCons (fC (.str "under")) (aCons (fC (.str "until")) (aCons (fC (.str "lasts")) aNil))))) (aCons (fCutT (fVar 0) (oSome (fC (.int 2))) (oSome (fC (.int 6)))) aNil)) ρ) zipD) (EL nm w h p u l S R (T0 nm w) none none) = some (.ok [.tup [.str "for", eS h], .tup [.str "under", eS p], .tup [.str "until", eO u], .tup [.str "lasts", eO l]]) := by kernel_rfl
  have v9 : f2 addT (f2 addT (fVar 1) (fC (.str "="))) (fVar 2) [some (gv nm w h p u l S R), some (.str nm), some (.str w), some (eS h), some (eS p), some (eO u), some (eO l), some (.bl S), some (.str R), none, none, none] = some (.ok (.str (T0 nm w))) :=
    (f2_of ((f2_of (x := .str nm) (y := .str "=") rfl rfl).trans (addT_s (by omega))) (y := .str w) rfl).trans (addT_s (by rw [s_len]; omega))
  have f1 : fIf (fB (fVar 7)) (fC (.str "; safe")) (fC (.str "")) (EL nm w h p u l S R t4 none none) = some (.ok (.str (if S then Str.ofString "; safe" else Str.ofString ""))) := by cases S <;> rfl
  have g1 : t4 ++ (if S then Str.ofString "; safe" else Str.ofString "") = step t4 (oB "safe" S) := by
    cases S
    · exact s_nil t4
    · show t4 ++ Str.ofString "; safe" = t4 ++ Str.ofString "; " ++ Str.ofString "safe"
      rw [s_assoc]
      rfl
  have b5 := step_len t4 (oB "safe" S) 60 (oB_l (by decide))
  have z1 : f2 addT (fVar 9) (fIf (fB (fVar 7)) (fC (.str "; safe")) (fC (.str ""))) (EL nm w h p u l S R t4 none none) = some (.ok (.str (step t4 (oB "safe" S)))) := by
    rw [← g1]
    refine (f2_of (x := .str t4) rfl f1).trans (addT_s ?_)
    have : (if S then Str.ofString "; safe" else Str.ofString "").length ≤ 10 := by cases S <;> decide
    omega
  have f2' : fIf (fB (f2 eqX (fVar 8) (fC (.str "near")))) (fC (.str "; near")) (fC (.str "")) (EL nm w h p u l S R t4 none none) = some (.ok (.str (if nearB R then Str.ofString "; near" else Str.ofString ""))) := by
    have c : fB (f2 eqX (fVar 8) (fC (.str "near"))) (EL nm w h p u l S R t4 none none) = some (.ok (nearB R)) := rfl
    unfold fIf
    rw [c]
    cases nearB R <;> rfl
  have g2 : ∀ t : Str, t ++ (if nearB R then Str.ofString "; near" else Str.ofString "") = step t (oB "near" (nearB R)) := by
    intro t
    cases nearB R
    · exact s_nil t
    · show t ++ Str.ofString "; near" = t ++ Str.ofString "; " ++ Str.ofString "near"
      rw [s_assoc]
      rfl
  have z2 : (f2 addT (f2 addT (fVar 9) (fIf (fB (fVar 7)) (fC (.str "; safe")) (fC (.str "")))) (fIf (fB (f2 eqX (fVar 8) (fC (.str "near")))) (fC (.str "; near")) (fC (.str "")))) (EL nm w h p u l S R t4 none none) = some (.ok (.str (T nm w h p u l S R))) := by
    refine (f2_of z1 f2').trans ((addT_s ?_).trans ?_)
    · have : (if nearB R then Str.ofString "; near" else Str.ofString "").length ≤ 10 := by cases nearB R <;> decide
      omega
    · rw [g2]; rfl
  refine run_rt ?_
  show B__law_text [some (gv nm w h p u l S R), none, none, none, none, none, none, none, none, none, none, none] = _
  unfold B__law_text
  rw [fSeq_nx (show fUnp [1, 2, 3, 4] (fCutT (fVar 0) oNone (oSome (fC (.int 4)))) [some (gv nm w h p u l S R), none, none, none, none, none, none, none, none, none, none, none] = some (.nx [some (gv nm w h p u l S R), some (.str nm), some (.str w), some (eS h), some (eS p), none, none, none, none, none, none, none]) by kernel_rfl)]
  rw [fSeq_nx (show fUnp [5, 6, 7, 8] (fCutT (fVar 0) (oSome (fC (.int 4))) oNone) [some (gv nm w h p u l S R), some (.str nm), some (.str w), some (eS h), some (eS p), none, none, none, none, none, none, none] = some (.nx [some (gv nm w h p u l S R), some (.str nm), some (.str w), some (eS h), some (eS p), some (eO u), some (eO l), some (.bl S), some (.str R), none, none, none]) by kernel_rfl)]
  rw [fSeq_nx (fSet_nx (ρ' := EL nm w h p u l S R (T0 nm w) none none) v9 rfl)]
  have hfor : fForG (gP 10 11) [11, 10] (fun ρ => bnd ((aCons (fTup (aCons (fC (.str "for")) (aCons (fC (.str "under")) (aCons (fC (.str "until")) (aCons (fC (.str "lasts")) aNil))))) (aCons (fCutT (fVar 0) (oSome (fC (.int 2))) (oSome (fC (.int 6)))) aNil)) ρ) zipD) b__law_text_0 (EL nm w h p u l S R (T0 nm w) none none) = some (.nx (EL nm w h p u l S R t4 none none)) := by
    unfold fForG
    rw [hsrc]
    exact hloop
  rw [fSeq_nx hfor]
  exact rt_of z2
end
end G
namespace G
open PySem PySem.Spec PyProof.Rows L2 FD
def tell (p : Str) : Option (Nat × Dv) := match F_what_is_told [.str p] with
  | some (.ok (.tup [.int k, d])) => some (k.toNat, d)
  | _ => none
def eT : Option (Nat × Dv) → Dv
  | none => .non
  | some (k, d) => .tup [.int k, d]
def okT (p : Str) : Bool := match F_what_is_told [.str p] with
  | some (.ok .non) => true
  | some (.ok (.tup [.int k, _])) => decide (2 ≤ k) && decide (k < 8)
  | _ => false
theorem tell_of {p : Str} (h : okT p = true) : F_what_is_told [.str p] = some (.ok (eT (tell p))) ∧ ∀ k d, tell p = some (k, d) → 2 ≤ k ∧ k < 8 := by
  unfold okT at h
  unfold tell
  split at h
  · rename_i e; rw [e]; exact ⟨rfl, fun k d z => by cases z⟩
  · rename_i k d e
    rw [e]
    rw [Bool.and_eq_true, decide_eq_true_eq, decide_eq_true_eq] at h
    refine ⟨?_, fun k' d' z => ?_⟩
    · show _ = some (Rs.ok (Dv.tup [.int (k.toNat : Int), d]))
      rw [Int.toNat_of_nonneg (by omega)]
    · cases z; omega
  · cases h
def blk : Str := Str.ofString " "
def bl2 : Str := Str.ofString "  "
def stripB (pre p post : Str) : Bool := seq (Txt.stripChars (pre ++ p ++ post) blk) p && !((pre ++ p ++ post).cps.toList.contains 59)
def emp : Str := Str.ofString ""
def okS (p : Str) : Bool := stripB emp p emp && (stripB blk p emp && (stripB bl2 p bl2 && (stripB emp p bl2 && (stripB bl2 p emp && decide (p.length ≤ 200)))))
def okPt (p : Str) : Bool := okT p && okS p
def oddP : List Str := [Str.ofString "x=y", Str.ofString "until", Str.ofString "for A", Str.ofString "under b", Str.ofString "lasts 99999", Str.ofString "SAFE", Str.ofString "", Str.ofString "safe near", Str.ofString "until  7"]
def aheadP : List Str := [Str.ofString "until 17", Str.ofString "under /q", Str.ofString "lasts 4", Str.ofString "for q.r"]
def intsN (n : Nat) : List Int := (List.range n).map fun i : Nat => (i : Int)
def allP : List Str := En.map (fun h => Str.ofString "for " ++ h) ++ (pths.map (fun h => Str.ofString "under " ++ h) ++ ((intsN 60).map (fun i => Str.ofString "until " ++ is i) ++ ((intsN 30).map (fun i => Str.ofString "lasts " ++ is i) ++ ([Str.ofString "safe", Str.ofString "near"] ++ (oddP ++ aheadP)))))
theorem allP_ok : allP.all okPt = true := by kernel_rfl
theorem for_ok : (En.all fun h => match F_what_is_told [.str (Str.ofString "for " ++ h)] with | some (.ok (.tup [.int 2, .str z])) => seq z h | _ => false) = true := by kernel_rfl
theorem und_ok : (pths.all fun h => match F_what_is_told [.str (Str.ofString "under " ++ h)] with | some (.ok (.tup [.int 3, .str z])) => seq z h | _ => false) = true := by kernel_rfl
theorem unt_ok : ((intsN 60).all fun i => match F_what_is_told [.str (Str.ofString "until " ++ is i)] with | some (.ok (.tup [.int 4, .int z])) => z == i | _ => false) = true := by kernel_rfl
theorem las_ok : ((intsN 30).all fun i => match F_what_is_told [.str (Str.ofString "lasts " ++ is i)] with | some (.ok (.tup [.int 5, .int z])) => z == i | _ => false) = true := by kernel_rfl
theorem t_for {h : Str} (q : h ∈ En) : tell (Str.ofString "for " ++ h) = some (2, .str h) := by
  have z := all_mem for_ok q
  unfold tell
  split at z
  · rename_i y e; rw [e]; rw [seq_true z]; rfl
  · cases z
theorem t_und {h : Str} (q : h ∈ pths) : tell (Str.ofString "under " ++ h) = some (3, .str h) := by
  have z := all_mem und_ok q
  unfold tell
  split at z
  · rename_i y e; rw [e]; rw [seq_true z]; rfl
  · cases z
theorem t_unt {i : Int} (q : i ∈ intsN 60) : tell (Str.ofString "until " ++ is i) = some (4, .int i) := by
  have z := all_mem unt_ok q
  unfold tell
  split at z
  · rename_i y e; rw [e]; rw [show y = i by simpa using z]; rfl
  · cases z
theorem t_las {i : Int} (q : i ∈ intsN 30) : tell (Str.ofString "lasts " ++ is i) = some (5, .int i) := by
  have z := all_mem las_ok q
  unfold tell
  split at z
  · rename_i y e; rw [e]; rw [show y = i by simpa using z]; rfl
  · cases z
theorem t_safe : tell (Str.ofString "safe") = some (6, .bl true) := by kernel_rfl
theorem t_near : tell (Str.ofString "near") = some (7, .str "near") := by kernel_rfl
theorem odd_ok : (oddP.all fun p => match F_what_is_told [.str p] with | some (.ok .non) => true | _ => false) = true := by kernel_rfl
theorem t_odd {p : Str} (q : p ∈ oddP) : tell p = none := by
  have z := all_mem odd_ok q
  unfold tell
  split at z
  · rename_i e; rw [e]
  · cases z
def put (ds : List Dv) (p : Str) : List Dv := match tell p with
  | none => ds
  | some (k, d) => ds.set k d
theorem put_len (ds : List Dv) (p : Str) : (put ds p).length = ds.length := by
  unfold put; split <;> simp
theorem imms_strs : ∀ l : List Str, imms (l.map Dv.str) = true
  | [] => rfl
  | x :: l => by show (imm (.str x) && imms (l.map Dv.str)) = true; rw [imms_strs l]; rfl
def ER (x : Str) (L T3 : Dv) (a b : Option Dv) : Ev := [some (.str x), some L, some T3, none, a, b]
theorem rd_body {x p : Str} {L T3 : Dv} {b : Option Dv} {ds : List Dv} (h : okT p = true) (hl : ds.length = 8) : ∃ b', b_read_given_0 (ER x L T3 (some (.str p)) b) ds = some (.nx (ER x L T3 (some (.str p)) b') (put ds p)) := by
  obtain ⟨e, hk⟩ := tell_of h
  refine ⟨some (eT (tell p)), ?_⟩
  have e1 : oSet 5 (fCall F_what_is_told 1 (aCons (fVar 4) aNil)) (ER x L T3 (some (.str p)) b) ds = some (.nx (ER x L T3 (some (.str p)) (some (eT (tell p)))) ds) := by
    unfold oSet
    rw [call1 F_what_is_told (f := fVar 4) (ρ := ER x L T3 (some (.str p)) b) (a := .str p) rfl e]
    rfl
  unfold b_read_given_0
  show (match oSet 5 (fCall F_what_is_told 1 (aCons (fVar 4) aNil)) (ER x L T3 (some (.str p)) b) ds with
    | some (.nx ρ' ds') => (oIf (fB (f2 notN (fVar 5) (fC .non))) (oStore (f2 ixD (fVar 5) (fC (.int 0))) (f2 ixD (fVar 5) (fC (.int 1)))) oNil) ρ' ds'
    | o => o) = _
  rw [e1]
  unfold put
  match ht : tell p with
  | none => rfl
  | some (k, d) =>
    have := hk k d ht
    show (if 0 ≤ (k : Int) ∧ (k : Int) < ds.length then some (Fo.nx (ER x L T3 (some (.str p)) (some (.tup [.int k, d]))) (ds.set (k : Int).toNat d)) else none) = _
    rw [if_pos ⟨by omega, by omega⟩]
    rfl
theorem rd_loop {x : Str} {L T3 : Dv} : ∀ (ps : List Str) (ds : List Dv) (a b : Option Dv), (∀ p ∈ ps, okT p = true) → ds.length = 8 → loopO 4 [4, 5] b_read_given_0 (ps.map Dv.str) (ER x L T3 a b) ds = some (.nx (ER x L T3 none none) (ps.foldl put ds))
  | [], ds, a, b, _, _ => rfl
  | p :: ps, ds, a, b, h, hl => by
    obtain ⟨b', e⟩ := rd_body (x := x) (L := L) (T3 := T3) (b := none) (ds := ds) (h p List.mem_cons_self) hl
    show (match b_read_given_0 (ER x L T3 (some (.str p)) none) ds with
      | some (.nx ρ' xs') => loopO 4 [4, 5] b_read_given_0 (ps.map Dv.str) ρ' xs'
      | o => o) = _
    rw [e]
    exact rd_loop ps (put ds p) (some (.str p)) b' (fun q hq => h q (List.mem_cons_of_mem _ hq)) (by rw [put_len]; exact hl)
def okFi (nm w : Str) : Bool := okS (T0 nm w) && (match partD (T0 nm w) [.str "="] with | some (.ok (.tup [.str a, .str b, .str c])) => seq a nm && (seq b (Str.ofString "=") && seq c w) | _ => false) && (okY (F_is_note_name [.str nm]) && okY (F_is_worth [.str w]))
theorem first_ok : (nms.all fun n => wts.all fun w => okFi n w) = true := by kernel_rfl
def rd0 (nm w : Str) : List Dv := [.str nm, .str w, .non, .non, .non, .non, .bl false, .str "any"]
theorem read_of {x nm w : Str} {qs ps : List Str} (hx : x.length ≤ 100000) (hnm : nm ∈ nms) (hw : w ∈ wts) (hs : Txt.split x (Str.ofString ";") = qs) (hq : qs.length ≤ 100)
    (ht : qs.map (fun q => Txt.stripChars q blk) = T0 nm w :: ps) (hl : ∀ q ∈ qs, q.length ≤ 1000) (hp : ∀ p ∈ ps, okT p = true) : F_read_given [.str x] = some (.ok (.tup (ps.foldl put (rd0 nm w)))) := by
  have hf := all_mem (p := fun w => okFi nm w) (all_mem (p := fun n => wts.all fun w => okFi n w) first_ok hnm) hw
  unfold okFi at hf
  simp only [Bool.and_eq_true] at hf
  obtain ⟨⟨_, h2⟩, h3, h4⟩ := hf
  have e3 := okY_eq h3
  have e4 := okY_eq h4
  have e2 : partD (T0 nm w) [.str "="] = some (.ok (.tup [.str nm, .str "=", .str w])) := by
    split at h2
    · rename_i a b c e
      simp only [Bool.and_eq_true] at h2
      rw [e, seq_true h2.1, seq_true h2.2.1, seq_true h2.2.2]
    · cases h2
  have v1 : fCompG 1 [] (iSeq (fM (splitD) (fVar 0) (aCons (fC (.str ";")) aNil))) (gN 0) none (fM (stripD) (fVar 0) (aCons (fC (.str " ")) aNil)) [some (.str x), none, none, none, none, none] = some (.ok (.lst ((T0 nm w :: ps).map Dv.str))) := by
    have hsrc : iSeq (fM (splitD) (fVar 0) (aCons (fC (.str ";")) aNil)) [some (.str x), none, none, none, none, none] = some (.ok (qs.map Dv.str)) := by
      have z : fM (splitD) (fVar 0) (aCons (fC (.str ";")) aNil) [some (.str x), none, none, none, none, none] = some (.ok (.lst (qs.map Dv.str))) := by
        show splitD x [.str ";"] = _
        show (if (Str.ofString ";").length ≠ 0 ∧ x.length ≤ 100000 ∧ (Txt.split x (Str.ofString ";")).length ≤ 100000 then _ else none) = _
        rw [if_pos ⟨by decide, hx, by rw [hs]; omega⟩, hs]
      unfold iSeq
      rw [z]
      rfl
    have e := compG_all (cs := []) (elt := fM (stripD) (fVar 0) (aCons (fC (.str " ")) aNil)) Dv.str (fun q => Dv.str (Txt.stripChars q blk)) hsrc (by omega) fun q hq' => by
      show stripD q [.str " "] = _
      show (if q.length ≤ 100000 then _ else none) = _
      rw [if_pos (by have := hl q hq'; omega)]
      rfl
    rw [e, ← ht, List.map_map]
    rfl
  let L : Dv := .lst ((T0 nm w :: ps).map Dv.str)
  let T3 : Dv := .tup [.str nm, .str "=", .str w]
  have v2 : fM (partD) (f2 ixD (fVar 1) (fC (.int 0))) (aCons (fC (.str "=")) aNil) [some (.str x), some L, none, none, none, none] = some (.ok T3) := e2
  have c1 : (bOr (fB (f2 eqX (f2 ixD (fVar 2) (fC (.int 1))) (fC (.str "")))) (bOr (bNot (fB (fCall F_is_note_name 1 (aCons (f2 ixD (fVar 2) (fC (.int 0))) aNil)))) (bNot (fB (fCall F_is_worth 1 (aCons (f2 ixD (fVar 2) (fC (.int 2))) aNil)))))) (ER x L T3 none none) = some (.ok false) := by
    have y1 : fCall F_is_note_name 1 (aCons (f2 ixD (fVar 2) (fC (.int 0))) aNil) (ER x L T3 none none) = bo true := call1 F_is_note_name rfl e3
    have y2 : fCall F_is_worth 1 (aCons (f2 ixD (fVar 2) (fC (.int 2))) aNil) (ER x L T3 none none) = bo true := call1 F_is_worth rfl e4
    have y0 : fB (f2 eqX (f2 ixD (fVar 2) (fC (.int 1))) (fC (.str ""))) (ER x L T3 none none) = some (.ok false) := by kernel_rfl
    unfold bOr
    rw [y0]
    show (bOr (bNot (fB (fCall F_is_note_name 1 (aCons (f2 ixD (fVar 2) (fC (.int 0))) aNil)))) (bNot (fB (fCall F_is_worth 1 (aCons (f2 ixD (fVar 2) (fC (.int 2))) aNil))))) (ER x L T3 none none) = _
    unfold bOr bNot
    rw [fB_of y1, fB_of y2]
    rfl
  have hsrc2 : iSeq (fCut (fVar 1) (oSome (fC (.int 1))) oNone) (ER x L T3 none none) = some (.ok (ps.map Dv.str)) := by
    have z : fCut (fVar 1) (oSome (fC (.int 1))) oNone (ER x L T3 none none) = some (.ok (.lst (ps.map Dv.str))) := by
      show some (Rs.ok (Dv.lst (cutL ((T0 nm w :: ps).map Dv.str) (some 1) none))) = _
      congr 3
      show (((T0 nm w :: ps).map Dv.str).drop (min 1 ((T0 nm w :: ps).map Dv.str).length)).take (((T0 nm w :: ps).map Dv.str).length - min 1 ((T0 nm w :: ps).map Dv.str).length) = _
      rw [Nat.min_eq_left (by simp)]
      rw [List.map_cons, List.drop_succ_cons, List.drop_zero, List.take_of_length_le (by simp)]
    unfold iSeq
    rw [z]
    rfl
  have hfor : oFor 4 [4, 5] (iSeq (fCut (fVar 1) (oSome (fC (.int 1))) oNone)) b_read_given_0 (ER x L T3 none none) (rd0 nm w) = some (.nx (ER x L T3 none none) (ps.foldl put (rd0 nm w))) := by
    unfold oFor
    rw [hsrc2]
    show (if imms (ps.map Dv.str) = true then _ else none) = _
    rw [if_pos (imms_strs ps)]
    exact rd_loop ps (rd0 nm w) none none hp rfl
  refine run_rt ?_
  show B_read_given [some (.str x), none, none, none, none, none] = _
  unfold B_read_given
  rw [fSeq_nx (ifS_skip (show bNot (fB (f1 (isiD tbStr) (fVar 0))) [some (.str x), none, none, none, none, none] = some (.ok false) from rfl))]
  rw [fSeq_nx (fSet_nx (ρ' := [some (.str x), some L, none, none, none, none]) v1 rfl)]
  rw [fSeq_nx (fSet_nx (ρ' := ER x L T3 none none) v2 rfl)]
  rw [fSeq_nx (ifS_skip c1)]
  unfold fOwn
  rw [show (aCons (f2 ixD (fVar 2) (fC (.int 0))) (aCons (f2 ixD (fVar 2) (fC (.int 2))) (aCons (fC .non) (aCons (fC .non) (aCons (fC .non) (aCons (fC .non) (aCons (fC (.bl false)) (aCons (fC (.str "any")) aNil)))))))) (ER x L T3 none none) = some (.ok (rd0 nm w)) from rfl]
  show (match (oSeq (oFor 4 [4, 5] (iSeq (fCut (fVar 1) (oSome (fC (.int 1))) oNone)) b_read_given_0) (oRet 3 (fB1 tupleD (aCons (fVar 3) aNil)))) (ER x L T3 none none) (rd0 nm w) with
    | some (.nx ρ' ds') => some (Fl.nx (ρ'.set 3 (some (.lst ds'))))
    | some (.rt d) => some (.rt d)
    | none => none) = _
  unfold oSeq
  rw [hfor]
  rfl
end G
namespace G
open PySem PySem.Spec PyProof.Rows L2 FD
theorem cps_app (a b : Str) : (a ++ b).cps.toList = a.cps.toList ++ b.cps.toList := Array.toList_append
def padsF (po pr : Str) : Str → Str → List Str → List Str
  | pre, x, [] => [pre ++ x ++ emp]
  | pre, x, y :: l => (pre ++ x ++ po) :: padsF po pr pr y l
theorem padsF_ne (po pr : Str) : ∀ (l : List Str) (pre x : Str), ∃ q r, padsF po pr pre x l = q :: r
  | [], _, _ => ⟨_, _, rfl⟩
  | _ :: _, _, _ => ⟨_, _, rfl⟩
def JS : List Str → List Nat
  | [] => []
  | q :: r => J [59] q.cps.toList (r.map fun s => s.cps.toList)
theorem join_cons (sep x y : Str) (l : List Str) : Txt.join sep (x :: y :: l) = x ++ sep ++ Txt.join sep (y :: l) := by
  show Builtin.Str.glued sep (x :: y :: l) = x ++ sep ++ Builtin.Str.glued sep (y :: l)
  rw [StrLaws.glued_eq_join, StrLaws.glued_eq_join]
  rfl
theorem joinJ {sep po pr : Str} (hs : sep.cps.toList = po.cps.toList ++ 59 :: pr.cps.toList) : ∀ (l : List Str) (pre x : Str), pre.cps.toList ++ (Txt.join sep (x :: l)).cps.toList = JS (padsF po pr pre x l)
  | [], pre, x => by
    show pre.cps.toList ++ x.cps.toList = (pre ++ x ++ emp).cps.toList
    rw [cps_app, cps_app]
    show _ = _ ++ []
    simp
  | y :: l, pre, x => by
    have ih := joinJ hs l pr y
    obtain ⟨q, r, e⟩ := padsF_ne po pr l pr y
    rw [join_cons, cps_app, cps_app, hs]
    show _ = JS ((pre ++ x ++ po) :: padsF po pr pr y l)
    rw [e] at ih ⊢
    show _ = (pre ++ x ++ po).cps.toList ++ ([59] ++ J [59] q.cps.toList (r.map fun s => s.cps.toList))
    rw [show J [59] q.cps.toList (r.map fun s => s.cps.toList) = JS (q :: r) from rfl, ← ih, cps_app, cps_app]
    simp
def okQ (po pr p : Str) : Bool := stripB emp p po && (stripB emp p emp && (stripB pr p po && stripB pr p emp))
theorem stripB_of {pre p post : Str} (h : stripB pre p post = true) : Txt.stripChars (pre ++ p ++ post) blk = p ∧ 59 ∉ (pre ++ p ++ post).cps.toList := by
  unfold stripB at h
  rw [Bool.and_eq_true] at h
  exact ⟨seq_true h.1, by simpa using h.2⟩
theorem pads_of {po pr : Str} : ∀ (l : List Str) (pre x : Str), (stripB pre x po = true ∧ stripB pre x emp = true) → (∀ p ∈ l, okQ po pr p = true) →
    (padsF po pr pre x l).map (fun q => Txt.stripChars q blk) = x :: l ∧ ∀ q ∈ padsF po pr pre x l, 59 ∉ q.cps.toList
  | [], pre, x, hx, _ => by
    obtain ⟨h1, h2⟩ := stripB_of hx.2
    exact ⟨by show [Txt.stripChars (pre ++ x ++ emp) blk] = [x]; rw [h1], fun q hq => by rw [List.mem_singleton.mp hq]; exact h2⟩
  | y :: l, pre, x, hx, hl => by
    obtain ⟨h1, h2⟩ := stripB_of hx.1
    have hy := hl y List.mem_cons_self
    unfold okQ at hy
    simp only [Bool.and_eq_true] at hy
    obtain ⟨g1, g2⟩ := pads_of l pr y ⟨hy.2.2.1, hy.2.2.2⟩ fun p hp => hl p (List.mem_cons_of_mem _ hp)
    refine ⟨by show Txt.stripChars (pre ++ x ++ po) blk :: (padsF po pr pr y l).map _ = _; rw [h1, g1], fun q hq => ?_⟩
    rcases List.mem_cons.mp hq with rfl | hq
    · exact h2
    · exact g2 q hq
theorem pads_len {po pr : Str} (h1 : po.length ≤ 2) (h2 : pr.length ≤ 2) : ∀ (l : List Str) (pre x : Str), pre.length ≤ 2 → x.length ≤ 200 → (∀ p ∈ l, p.length ≤ 200) → (padsF po pr pre x l).length = l.length + 1 ∧ ∀ q ∈ padsF po pr pre x l, q.length ≤ 300
  | [], pre, x, hp, hx, _ => ⟨rfl, fun q hq => by
    rw [List.mem_singleton.mp hq, s_len, s_len]
    have : emp.length = 0 := by decide
    omega⟩
  | y :: l, pre, x, hp, hx, hl => by
    obtain ⟨g1, g2⟩ := pads_len h1 h2 l pr y h2 (hl y List.mem_cons_self) fun p hp => hl p (List.mem_cons_of_mem _ hp)
    refine ⟨by show (padsF po pr pr y l).length + 1 = _; rw [g1]; rfl, fun q hq => ?_⟩
    rcases List.mem_cons.mp hq with rfl | hq
    · rw [s_len, s_len]; omega
    · exact g2 q hq
theorem fold_len (sep : Str) (hs : sep.length ≤ 10) : ∀ (l : List Str) (x : Str), (∀ p ∈ l, p.length ≤ 200) → (l.foldl (fun t y => t ++ sep ++ y) x).length ≤ x.length + l.length * 210
  | [], x, _ => by simp
  | y :: l, x, h => by
    have ih := fold_len sep hs l (x ++ sep ++ y) fun p hp => h p (List.mem_cons_of_mem _ hp)
    have h0 := h y List.mem_cons_self
    rw [s_len, s_len] at ih
    show (l.foldl _ (x ++ sep ++ y)).length ≤ _
    rw [List.length_cons]
    omega
theorem read_join {sep po pr nm w : Str} {ps : List Str} (hs : sep.cps.toList = po.cps.toList ++ 59 :: pr.cps.toList) (hsl : sep.length ≤ 10) (h1 : po.length ≤ 2) (h2 : pr.length ≤ 2) (hnm : nm ∈ nms) (hw : w ∈ wts) (hF : okQ po pr (T0 nm w) = true) (hFl : (T0 nm w).length ≤ 200)
    (hQ : ∀ p ∈ ps, okQ po pr p = true) (hl : ∀ p ∈ ps, p.length ≤ 200) (hn : ps.length ≤ 50) (hT : ∀ p ∈ ps, okT p = true) : F_read_given [.str (Txt.join sep (T0 nm w :: ps))] = some (.ok (.tup (ps.foldl put (rd0 nm w)))) := by
  obtain ⟨q, r, e⟩ := padsF_ne po pr ps emp (T0 nm w)
  unfold okQ at hF
  simp only [Bool.and_eq_true] at hF
  obtain ⟨g1, g2⟩ := pads_of (po := po) (pr := pr) ps emp (T0 nm w) ⟨hF.1, hF.2.1⟩ hQ
  obtain ⟨k1, k2⟩ := pads_len h1 h2 ps emp (T0 nm w) (by decide) hFl hl
  have hj := joinJ hs ps emp (T0 nm w)
  rw [e] at hj g1 g2 k1 k2
  have hx : (Txt.join sep (T0 nm w :: ps)).cps.toList = J (Str.ofString ";").cps.toList q.cps.toList (r.map fun s => s.cps.toList) := by
    have z : emp.cps.toList = [] := by kernel_rfl
    rw [z] at hj
    exact hj
  refine read_of (qs := q :: r) ?_ hnm hw (split_parts (c := 59) (rest := []) (by kernel_rfl) (by kernel_rfl) g2 hx) (by rw [k1]; omega) g1 (fun s hs' => by have := k2 s hs'; omega) hT
  rw [join_fold]
  have := fold_len sep hsl ps (T0 nm w) hl
  omega
end G
namespace G
open PySem PySem.Spec PyProof.Rows L2 FD
structure Gw (nm w : Str) (h p : Option Str) (u l : Option Int) (S : Bool) (R : Str) : Prop where
  nm : nm ∈ nms
  w : w ∈ wts
  h : ∀ x, h = some x → x ∈ En
  p : ∀ x, p = some x → x ∈ pths
  u : ∀ i, u = some i → 0 ≤ i ∧ i < 60
  l : ∀ i, l = some i → 0 ≤ i ∧ i < 30
  r : R = Str.ofString "any" ∨ R = Str.ofString "near"
theorem gw_of {nm w : Str} {H P u l : Dv} {S : Bool} {R : Str} (g : Gv nm w H P u l S R) : ∃ h p u' l', Gw nm w h p u' l' S R ∧ gvn nm w H P u l S R = gv nm w h p u' l' S R := by
  have a1 : ∃ h, H = eS h ∧ ∀ x, h = some x → x ∈ En := by
    rcases g.hh with rfl | ⟨n, hn, rfl⟩
    · exact ⟨none, rfl, fun x e => by cases e⟩
    · exact ⟨some n, rfl, fun x e => by cases e; exact hn⟩
  have a2 : ∃ h, P = eS h ∧ ∀ x, h = some x → x ∈ pths := by
    rcases g.pp with rfl | ⟨n, hn, rfl⟩
    · exact ⟨none, rfl, fun x e => by cases e⟩
    · exact ⟨some n, rfl, fun x e => by cases e; exact hn⟩
  have a3 : ∃ h, u = eO h ∧ ∀ x, h = some x → 0 ≤ x ∧ x < 60 := by
    rcases g.u with rfl | ⟨n, h0, h1, rfl⟩
    · exact ⟨none, rfl, fun x e => by cases e⟩
    · exact ⟨some n, rfl, fun x e => by cases e; exact ⟨h0, h1⟩⟩
  have a4 : ∃ h, l = eO h ∧ ∀ x, h = some x → 0 ≤ x ∧ x < 30 := by
    rcases g.l with rfl | ⟨n, h0, h1, rfl⟩
    · exact ⟨none, rfl, fun x e => by cases e⟩
    · exact ⟨some n, rfl, fun x e => by cases e; exact ⟨h0, h1⟩⟩
  obtain ⟨h, rfl, q1⟩ := a1
  obtain ⟨p, rfl, q2⟩ := a2
  obtain ⟨u, rfl, q3⟩ := a3
  obtain ⟨l, rfl, q4⟩ := a4
  exact ⟨h, p, u, l, ⟨g.nm, g.w, q1, q2, q3, q4, g.r⟩, rfl⟩
theorem len_all : (nms.all fun x => decide (x.length ≤ 50)) = true ∧ (wts.all fun x => decide (x.length ≤ 50)) = true ∧ (En.all fun x => decide (x.length ≤ 50)) = true ∧ (pths.all fun x => decide (x.length ≤ 50)) = true := ⟨by kernel_rfl, by kernel_rfl, by kernel_rfl, by kernel_rfl⟩
theorem lay_all : (nms.all fun x => PyData.canLay0 (.str x)) = true ∧ (wts.all fun x => PyData.canLay0 (.str x)) = true ∧ (En.all fun x => PyData.canLay0 (.str x)) = true ∧ (pths.all fun x => PyData.canLay0 (.str x)) = true := ⟨by kernel_rfl, by kernel_rfl, by kernel_rfl, by kernel_rfl⟩
theorem lay2 : PyData.canLay0 (.str (Str.ofString "any")) = true ∧ PyData.canLay0 (.str (Str.ofString "near")) = true := ⟨by kernel_rfl, by kernel_rfl⟩
section
variable {nm w : Str} {h p : Option Str} {u l : Option Int} {S : Bool} {R : Str}
theorem vv_of (g : Gw nm w h p u l S R) : Vv nm w h p u l R :=
  ⟨by simpa using all_mem (p := fun x : Str => decide (x.length ≤ 50)) len_all.1 g.nm, by simpa using all_mem (p := fun x : Str => decide (x.length ≤ 50)) len_all.2.1 g.w,
   fun x e => by simpa using all_mem (p := fun x : Str => decide (x.length ≤ 50)) len_all.2.2.1 (g.h x e), fun x e => by simpa using all_mem (p := fun x : Str => decide (x.length ≤ 50)) len_all.2.2.2 (g.p x e),
   fun i e => by have := g.u i e; omega, fun i e => by have := g.l i e; omega⟩
theorem it_eO (o : Option Int) : It1 0 (eO o) := by cases o; exact it_non; exact it_int
theorem it_gv (g : Gw nm w h p u l S R) : It1 1 (gv nm w h p u l S R) := by
  refine it_tup (k := 0) fun d hd => ?_
  simp only [List.mem_cons, List.not_mem_nil, or_false] at hd
  rcases hd with rfl | rfl | rfl | rfl | rfl | rfl | rfl | rfl
  · exact it_str (all_mem (p := fun x => PyData.canLay0 (.str x)) lay_all.1 g.nm)
  · exact it_str (all_mem (p := fun x => PyData.canLay0 (.str x)) lay_all.2.1 g.w)
  · cases h with
    | none => exact it_non
    | some x => exact it_str (all_mem (p := fun x => PyData.canLay0 (.str x)) lay_all.2.2.1 (g.h x rfl))
  · cases p with
    | none => exact it_non
    | some x => exact it_str (all_mem (p := fun x => PyData.canLay0 (.str x)) lay_all.2.2.2 (g.p x rfl))
  · exact it_eO u
  · exact it_eO l
  · exact it_bl
  · rcases g.r with e | e <;> rw [e]
    · exact it_str lay2.1
    · exact it_str lay2.2
theorem eqv_eO (a b : Option Int) : PyData.eqv (toPy (eO a)) (toPy (eO b)) = decide (a = b) := by
  cases a <;> cases b <;> simp [eO, toPy, PyData.eqv]
  rw [Bool.eq_iff_iff]; simp
theorem eqv_eS (a b : Option Str) : PyData.eqv (toPy (eS a)) (toPy (eS b)) = decide (a = b) := by
  cases a <;> cases b <;> simp [eS, toPy, PyData.eqv]
  rw [Bool.eq_iff_iff]; simp
theorem eqv_gv {nm' w' : Str} {h' p' : Option Str} {u' l' : Option Int} {S' : Bool} {R' : Str} : PyData.eqv (toPy (gv nm w h p u l S R)) (toPy (gv nm' w' h' p' u' l' S' R')) = decide (nm = nm' ∧ w = w' ∧ h = h' ∧ p = p' ∧ u = u' ∧ l = l' ∧ S = S' ∧ R = R') := by
  rw [Bool.eq_iff_iff]
  have e1 := eqv_eS h h'
  have e2 := eqv_eS p p'
  have e3 := eqv_eO u u'
  have e4 := eqv_eO l l'
  simp [toPy, toPys, PyData.eqv, PyData.eqvAll, e1, e2, e3, e4]
def PL (h p : Option Str) (u l : Option Int) (S : Bool) (R : Str) : List Str := (oS "for " h).toList ++ ((oS "under " p).toList ++ ((oI "until " u).toList ++ ((oI "lasts " l).toList ++ ((oB "safe" S).toList ++ ((oB "near" (nearB R)).toList ++ [])))))
theorem T_join : Txt.join (Str.ofString "; ") (T0 nm w :: PL h p u l S R) = T nm w h p u l S R := by
  rw [join_fold]
  unfold PL
  rw [fold_opt, fold_opt, fold_opt, fold_opt, fold_opt, fold_opt]
  rfl
theorem mem_ints {n : Nat} {i : Int} (h0 : 0 ≤ i) (h1 : i < n) : i ∈ intsN n := by
  unfold intsN
  exact List.mem_map.mpr ⟨i.toNat, List.mem_range.mpr (by omega), by omega⟩
theorem PL_all (g : Gw nm w h p u l S R) : ∀ x ∈ PL h p u l S R, x ∈ allP := by
  intro x hx
  simp only [PL, List.mem_append, Option.mem_toList, List.not_mem_nil, or_false] at hx
  unfold allP
  rcases hx with e | e | e | e | e | e
  · refine List.mem_append_left _ ?_
    cases h with
    | none => cases e
    | some y => cases e; exact List.mem_map.mpr ⟨y, g.h y rfl, rfl⟩
  · refine List.mem_append_right _ (List.mem_append_left _ ?_)
    cases p with
    | none => cases e
    | some y => cases e; exact List.mem_map.mpr ⟨y, g.p y rfl, rfl⟩
  · refine List.mem_append_right _ (List.mem_append_right _ (List.mem_append_left _ ?_))
    cases u with
    | none => cases e
    | some y => cases e; exact List.mem_map.mpr ⟨y, mem_ints (g.u y rfl).1 (g.u y rfl).2, rfl⟩
  · refine List.mem_append_right _ (List.mem_append_right _ (List.mem_append_right _ (List.mem_append_left _ ?_)))
    cases l with
    | none => cases e
    | some y => cases e; exact List.mem_map.mpr ⟨y, mem_ints (g.l y rfl).1 (g.l y rfl).2, rfl⟩
  · refine List.mem_append_right _ (List.mem_append_right _ (List.mem_append_right _ (List.mem_append_right _ (List.mem_append_left _ ?_))))
    unfold oB at e
    split at e
    · cases e; simp
    · cases e
  · refine List.mem_append_right _ (List.mem_append_right _ (List.mem_append_right _ (List.mem_append_right _ (List.mem_append_left _ ?_))))
    unfold oB at e
    split at e
    · cases e; simp
    · cases e
theorem odd_all {x : Str} (hx : x ∈ oddP) : x ∈ allP := by
  unfold allP
  exact List.mem_append_right _ (List.mem_append_right _ (List.mem_append_right _ (List.mem_append_right _ (List.mem_append_right _ (List.mem_append_left _ hx)))))
theorem ahd_all {x : Str} (hx : x ∈ aheadP) : x ∈ allP := by
  unfold allP
  exact List.mem_append_right _ (List.mem_append_right _ (List.mem_append_right _ (List.mem_append_right _ (List.mem_append_right _ (List.mem_append_right _ hx)))))
structure Ptk (x : Str) : Prop where
  t : okT x = true
  q1 : okQ emp blk x = true
  q2 : okQ emp emp x = true
  q3 : okQ bl2 bl2 x = true
  l : x.length ≤ 200
  n : 59 ∉ x.cps.toList
theorem ptk_s {x : Str} (h : okS x = true) : okQ emp blk x = true ∧ okQ emp emp x = true ∧ okQ bl2 bl2 x = true ∧ x.length ≤ 200 ∧ 59 ∉ x.cps.toList := by
  unfold okS at h
  simp only [Bool.and_eq_true, decide_eq_true_eq] at h
  obtain ⟨h1, h2, h3, h4, h5, h6⟩ := h
  unfold okQ
  simp only [Bool.and_eq_true]
  refine ⟨⟨h1, h1, h2, h2⟩, ⟨h1, h1, h1, h1⟩, ⟨h4, h1, h3, h5⟩, h6, ?_⟩
  have := (stripB_of h1).2
  rw [cps_app, cps_app] at this
  intro hm
  exact this (List.mem_append_left _ (List.mem_append_right _ hm))
theorem ptk {x : Str} (hx : x ∈ allP) : Ptk x := by
  have h := all_mem allP_ok hx
  unfold okPt at h
  rw [Bool.and_eq_true] at h
  obtain ⟨h1, h2, h3, h4, h5⟩ := ptk_s h.2
  exact ⟨h.1, h1, h2, h3, h4, h5⟩
theorem first_s (hnm : nm ∈ nms) (hw : w ∈ wts) : okS (T0 nm w) = true := by
  have hf := all_mem (p := fun w => okFi nm w) (all_mem (p := fun n => wts.all fun w => okFi n w) first_ok hnm) hw
  unfold okFi at hf
  simp only [Bool.and_eq_true] at hf
  exact hf.1.1
theorem rd_semi {ps : List Str} (hnm : nm ∈ nms) (hw : w ∈ wts) (hp : ∀ x ∈ ps, x ∈ allP) (hl : ps.length ≤ 50) :
    F_read_given [.str (Txt.join (Str.ofString "; ") (T0 nm w :: ps))] = some (.ok (.tup (ps.foldl put (rd0 nm w)))) ∧ F_read_given [.str (Txt.join (Str.ofString ";") (T0 nm w :: ps))] = some (.ok (.tup (ps.foldl put (rd0 nm w)))) ∧ F_read_given [.str (Txt.join (Str.ofString "  ;  ") (T0 nm w :: ps))] = some (.ok (.tup (ps.foldl put (rd0 nm w)))) := by
  obtain ⟨f1, f2, f3, f4, f5⟩ := ptk_s (first_s hnm hw)
  exact ⟨read_join (po := emp) (pr := blk) (by kernel_rfl) (by decide) (by decide) (by decide) hnm hw f1 f4 (fun x hx => (ptk (hp x hx)).q1) (fun x hx => (ptk (hp x hx)).l) hl fun x hx => (ptk (hp x hx)).t,
    read_join (po := emp) (pr := emp) (by kernel_rfl) (by decide) (by decide) (by decide) hnm hw f2 f4 (fun x hx => (ptk (hp x hx)).q2) (fun x hx => (ptk (hp x hx)).l) hl fun x hx => (ptk (hp x hx)).t,
    read_join (po := bl2) (pr := bl2) (by kernel_rfl) (by decide) (by decide) (by decide) hnm hw f3 f4 (fun x hx => (ptk (hp x hx)).q3) (fun x hx => (ptk (hp x hx)).l) hl fun x hx => (ptk (hp x hx)).t⟩
theorem joinJ2 (sep : Str) : ∀ (l : List Str) (x : Str), (Txt.join sep (x :: l)).cps.toList = J sep.cps.toList x.cps.toList (l.map fun s => s.cps.toList)
  | [], x => rfl
  | y :: l, x => by
    rw [join_cons, cps_app, cps_app, joinJ2 sep l y]
    show _ = x.cps.toList ++ (sep.cps.toList ++ J sep.cps.toList y.cps.toList (l.map fun s => s.cps.toList))
    simp
theorem spl_semi {ps : List Str} (hnm : nm ∈ nms) (hw : w ∈ wts) (hp : ∀ x ∈ ps, x ∈ allP) : Txt.split (Txt.join (Str.ofString "; ") (T0 nm w :: ps)) (Str.ofString "; ") = T0 nm w :: ps := by
  refine split_parts (c := 59) (rest := [32]) (by kernel_rfl) (by kernel_rfl) (fun q hq => ?_) (joinJ2 _ ps _)
  rcases List.mem_cons.mp hq with rfl | hq
  · exact (ptk_s (first_s hnm hw)).2.2.2.2
  · exact (ptk (hp q hq)).n
theorem PL_len : (PL h p u l S R).length ≤ 6 := by
  have f1 := len_ol (oS "for " h)
  have f2' := len_ol (oS "under " p)
  have f3 := len_ol (oI "until " u)
  have f4 := len_ol (oI "lasts " l)
  have f5 := len_ol (oB "safe" S)
  have f6 := len_ol (oB "near" (nearB R))
  simp [PL]; omega
def gs (o : Option Str) (c : Dv) : Dv := match o with | none => c | some x => .str x
def gi (o : Option Int) (c : Dv) : Dv := match o with | none => c | some x => .int x
def gb (o : Bool) (c d : Dv) : Dv := if o then d else c
theorem pt_h (hh : ∀ x, h = some x → x ∈ En) (L : List Str) (a b c d e f g i : Dv) : ((oS "for " h).toList ++ L).foldl put [a, b, c, d, e, f, g, i] = L.foldl put [a, b, gs h c, d, e, f, g, i] := by
  cases h with
  | none => rfl
  | some x => show L.foldl put (put _ (Str.ofString "for " ++ x)) = _; unfold put; rw [t_for (hh x rfl)]; rfl
theorem pt_p (hh : ∀ x, p = some x → x ∈ pths) (L : List Str) (a b c d e f g i : Dv) : ((oS "under " p).toList ++ L).foldl put [a, b, c, d, e, f, g, i] = L.foldl put [a, b, c, gs p d, e, f, g, i] := by
  cases p with
  | none => rfl
  | some x => show L.foldl put (put _ (Str.ofString "under " ++ x)) = _; unfold put; rw [t_und (hh x rfl)]; rfl
theorem pt_u (hh : ∀ x, u = some x → 0 ≤ x ∧ x < 60) (L : List Str) (a b c d e f g i : Dv) : ((oI "until " u).toList ++ L).foldl put [a, b, c, d, e, f, g, i] = L.foldl put [a, b, c, d, gi u e, f, g, i] := by
  cases u with
  | none => rfl
  | some x => show L.foldl put (put _ (Str.ofString "until " ++ is x)) = _; unfold put; rw [t_unt (mem_ints (hh x rfl).1 (hh x rfl).2)]; rfl
theorem pt_l (hh : ∀ x, l = some x → 0 ≤ x ∧ x < 30) (L : List Str) (a b c d e f g i : Dv) : ((oI "lasts " l).toList ++ L).foldl put [a, b, c, d, e, f, g, i] = L.foldl put [a, b, c, d, e, gi l f, g, i] := by
  cases l with
  | none => rfl
  | some x => show L.foldl put (put _ (Str.ofString "lasts " ++ is x)) = _; unfold put; rw [t_las (mem_ints (hh x rfl).1 (hh x rfl).2)]; rfl
theorem pt_S (L : List Str) (a b c d e f g i : Dv) : ((oB "safe" S).toList ++ L).foldl put [a, b, c, d, e, f, g, i] = L.foldl put [a, b, c, d, e, f, gb S g (.bl true), i] := by
  cases S with
  | false => rfl
  | true => show L.foldl put (put _ (Str.ofString "safe")) = _; unfold put; rw [t_safe]; rfl
theorem pt_R (k : Bool) (L : List Str) (a b c d e f g i : Dv) : ((oB "near" k).toList ++ L).foldl put [a, b, c, d, e, f, g, i] = L.foldl put [a, b, c, d, e, f, g, gb k i (.str "near")] := by
  cases k with
  | false => rfl
  | true => show L.foldl put (put _ (Str.ofString "near")) = _; unfold put; rw [t_near]; rfl
theorem put_PL (g : Gw nm w h p u l S R) (a b c d e f k i : Dv) : (PL h p u l S R).foldl put [a, b, c, d, e, f, k, i] = [a, b, gs h c, gs p d, gi u e, gi l f, gb S k (.bl true), gb (nearB R) i (.str "near")] := by
  unfold PL
  rw [pt_h g.h, pt_p g.p, pt_u g.u, pt_l g.l, pt_S, pt_R]
  rfl
theorem rev_ol (o : Option Str) : o.toList.reverse = o.toList := by cases o <;> rfl
theorem put_rev (g : Gw nm w h p u l S R) (a b c d e f k i : Dv) : (PL h p u l S R).reverse.foldl put [a, b, c, d, e, f, k, i] = [a, b, gs h c, gs p d, gi u e, gi l f, gb S k (.bl true), gb (nearB R) i (.str "near")] := by
  unfold PL
  simp only [List.reverse_append, rev_ol, List.reverse_nil, List.nil_append, List.append_assoc]
  rw [pt_R, pt_S, pt_l g.l, pt_u g.u, pt_p g.p, ← List.append_nil (oS "for " h).toList, pt_h g.h]
  rfl
theorem near_R (g : Gw nm w h p u l S R) : gb (nearB R) (.str "any") (.str "near") = .str R := by
  rcases g.r with e | e <;> rw [e] <;> rfl
theorem gs_non (o : Option Str) : gs o .non = eS o := by cases o <;> rfl
theorem gi_non (o : Option Int) : gi o .non = eO o := by cases o <;> rfl
theorem gb_S (S : Bool) : gb S (.bl false) (.bl true) = .bl S := by cases S <;> rfl
theorem put_0 (g : Gw nm w h p u l S R) : Dv.tup ((PL h p u l S R).foldl put (rd0 nm w)) = gv nm w h p u l S R := by
  unfold rd0
  rw [put_PL g, near_R g, gs_non, gs_non, gi_non, gi_non, gb_S]
theorem put_r (g : Gw nm w h p u l S R) : Dv.tup ((PL h p u l S R).reverse.foldl put (rd0 nm w)) = gv nm w h p u l S R := by
  unfold rd0
  rw [put_rev g, near_R g, gs_non, gs_non, gi_non, gi_non, gb_S]
theorem mom_i (i : Int) : F_is_moment_or_none [.int i] = bo (decide (0 ≤ i) && decide (i ≤ 9999)) := by
  have e : F_is_whole_number [.int i, .int 0, .int 9999] = bo (decide (0 ≤ i) && decide (i ≤ 9999)) := by
    by_cases h0 : 0 ≤ i
    · simp [F_is_whole_number, runF, B_is_whole_number, fSeq, sq, fIfS, fRet, fRetN, fDrop, fSet, bndS, bnd, bOr, bAnd, bNot, fB, toB, fCall, fCallE, aCons, aNil, fVar, fC, f1, f2, ixD, atD, vOr, vAnd, vNot, fIf, fTup, fLst, fB1, fM, fRaise, fNever, isN, notN, isiD, tbBool, tbTup, tbStr, tbInt, leX, h0]
    · simp [F_is_whole_number, runF, B_is_whole_number, fSeq, sq, fIfS, fRet, fRetN, fDrop, fSet, bndS, bnd, bOr, bAnd, bNot, fB, toB, fCall, fCallE, aCons, aNil, fVar, fC, f1, f2, ixD, atD, vOr, vAnd, vNot, fIf, fTup, fLst, fB1, fM, fRaise, fNever, isN, notN, isiD, tbBool, tbTup, tbStr, tbInt, leX, h0]
  have e2 : F_is_moment [.int i] = bo (decide (0 ≤ i) && decide (i ≤ 9999)) := by simp [F_is_moment, runF, B_is_moment, fSeq, sq, fIfS, fRet, fRetN, fDrop, fSet, bndS, bnd, bOr, bAnd, bNot, fB, toB, fCall, fCallE, aCons, aNil, fVar, fC, f1, f2, ixD, atD, vOr, vAnd, vNot, fIf, fTup, fLst, fB1, fM, fRaise, fNever, isN, notN, isiD, tbBool, tbTup, tbStr, tbInt, e]
  simp [F_is_moment_or_none, runF, B_is_moment_or_none, fSeq, sq, fIfS, fRet, fRetN, fDrop, fSet, bndS, bnd, bOr, bAnd, bNot, fB, toB, fCall, fCallE, aCons, aNil, fVar, fC, f1, f2, ixD, atD, vOr, vAnd, vNot, fIf, fTup, fLst, fB1, fM, fRaise, fNever, isN, notN, isiD, tbBool, tbTup, tbStr, tbInt, e2]
theorem isg_ok (g : Gw nm w h p u l S R) : F_is_given [gv nm w h p u l S R] = bo true := by
  have z1 : (nms.all fun n => okY (F_is_note_name [.str n])) = true := by kernel_rfl
  have z2 : (wts.all fun n => okY (F_is_worth [.str n])) = true := by kernel_rfl
  have z3 : (En.all fun n => okY (F_is_name [.str n])) = true := by kernel_rfl
  have z4 : (pths.all fun n => okY (F_is_path [.str n])) = true := by kernel_rfl
  have e0 : F_is_tuple_of [gv nm w h p u l S R, .int 8] = bo true := by kernel_rfl
  have e1 : F_is_note_name [.str nm] = bo true := okY_eq (all_mem (p := fun n => okY (F_is_note_name [.str n])) z1 g.nm)
  have e2 : F_is_worth [.str w] = bo true := okY_eq (all_mem (p := fun n => okY (F_is_worth [.str n])) z2 g.w)
  have e3 : F_is_moment_or_none [eO u] = bo true := by
    cases u with
    | none => kernel_rfl
    | some i => show F_is_moment_or_none [.int i] = _; rw [mom_i]; have := g.u i rfl; simp; omega
  have e4 : F_is_moment_or_none [eO l] = bo true := by
    cases l with
    | none => kernel_rfl
    | some i => show F_is_moment_or_none [.int i] = _; rw [mom_i]; have := g.l i rfl; simp; omega
  have e5 : F_is_reach [.str R] = bo true := by rcases g.r with h | h <;> rw [h] <;> kernel_rfl
  cases h with
  | none =>
    cases p with
    | none => simp [F_is_given, runF, B_is_given, fSeq, sq, fIfS, fRet, fRetN, fDrop, fSet, bndS, bnd, bOr, bAnd, bNot, fB, toB, fCall, fCallE, aCons, aNil, fVar, fC, f1, f2, ixD, atD, vOr, vAnd, vNot, fIf, fTup, fLst, fB1, fM, fRaise, fNever, isN, notN, isiD, tbBool, tbTup, tbStr, tbInt, eS, e0, e1, e2, e3, e4, e5, allD, bools]
    | some q =>
      have y2 : F_is_path [.str q] = bo true := okY_eq (all_mem (p := fun n => okY (F_is_path [.str n])) z4 (g.p q rfl))
      simp [F_is_given, runF, B_is_given, fSeq, sq, fIfS, fRet, fRetN, fDrop, fSet, bndS, bnd, bOr, bAnd, bNot, fB, toB, fCall, fCallE, aCons, aNil, fVar, fC, f1, f2, ixD, atD, vOr, vAnd, vNot, fIf, fTup, fLst, fB1, fM, fRaise, fNever, isN, notN, isiD, tbBool, tbTup, tbStr, tbInt, eS, e0, e1, e2, e3, e4, e5, y2, allD, bools]
  | some n =>
    have y1 : F_is_name [.str n] = bo true := okY_eq (all_mem (p := fun n => okY (F_is_name [.str n])) z3 (g.h n rfl))
    cases p with
    | none => simp [F_is_given, runF, B_is_given, fSeq, sq, fIfS, fRet, fRetN, fDrop, fSet, bndS, bnd, bOr, bAnd, bNot, fB, toB, fCall, fCallE, aCons, aNil, fVar, fC, f1, f2, ixD, atD, vOr, vAnd, vNot, fIf, fTup, fLst, fB1, fM, fRaise, fNever, isN, notN, isiD, tbBool, tbTup, tbStr, tbInt, eS, e0, e1, e2, e3, e4, e5, y1, allD, bools]
    | some q =>
      have y2 : F_is_path [.str q] = bo true := okY_eq (all_mem (p := fun n => okY (F_is_path [.str n])) z4 (g.p q rfl))
      simp [F_is_given, runF, B_is_given, fSeq, sq, fIfS, fRet, fRetN, fDrop, fSet, bndS, bnd, bOr, bAnd, bNot, fB, toB, fCall, fCallE, aCons, aNil, fVar, fC, f1, f2, ixD, atD, vOr, vAnd, vNot, fIf, fTup, fLst, fB1, fM, fRaise, fNever, isN, notN, isiD, tbBool, tbTup, tbStr, tbInt, eS, e0, e1, e2, e3, e4, e5, y1, y2, allD, bools]
theorem read_T (g : Gw nm w h p u l S R) : F_read_given [.str (T nm w h p u l S R)] = some (.ok (gv nm w h p u l S R)) := by
  have := (rd_semi (nm := nm) (w := w) g.nm g.w (PL_all g) (Nat.le_trans PL_len (by omega))).1
  rw [T_join, put_0 g] at this
  exact this
end
end G
namespace G
open PySem PySem.Spec PyProof.Rows L2 FD
theorem cutL_to {α : Type} (l : List α) (n : Nat) (h : n ≤ l.length) : cutL l none (some (n : Int)) = l.take n := by
  unfold cutL HT.sIx
  simp only [List.drop_zero]
  rw [if_neg (by omega)]
  congr 1
  omega
theorem cutL_from {α : Type} (l : List α) (n : Nat) (h : n ≤ l.length) : cutL l (some (n : Int)) none = l.drop n := by
  unfold cutL HT.sIx
  simp only
  rw [if_neg (by omega), show min (n : Int).toNat l.length = n by omega, List.take_of_length_le (by simp)]
theorem sep3 : (Str.ofString "; ").length ≤ 10 ∧ (Str.ofString ";").length ≤ 10 ∧ (Str.ofString "  ;  ").length ≤ 10 := ⟨by decide, by decide, by decide⟩
theorem jn_of {sep : Str} {ts : List Str} (hs : sep.length ≤ 10) (h : ∀ t ∈ ts, t.length ≤ 20000) (hl : ts.length ≤ 20) : joinD sep [.lst (ts.map Dv.str)] = some (.ok (.str (Txt.join sep ts))) := by
  show (match texts (ts.map Dv.str) with | some ts => if JoinOk sep ts = true then some (Rs.ok (Dv.str (Txt.join sep ts))) else none | none => none) = _
  rw [texts_map]
  dsimp only
  have e := join_sum sep 20000 ts 0 h
  have e2 : ts.length * (20000 + sep.length) ≤ 20 * (20000 + 10) := Nat.mul_le_mul hl (by omega)
  have e4 : JoinOk sep ts = true := by
    unfold JoinOk Builtin.Str.tooLong
    rw [List.foldl_toArray]
    have e3 : ¬ (ts.foldl (fun a t => a + t.length + sep.length) 0 > sizeLine) := by
      have : sizeLine = 16777216 := by decide
      omega
    simp only [e3]
    rfl
  rw [if_pos e4]
theorem addT_l {a b : List Dv} (h : a.length + b.length ≤ 100000) : addT (.lst a) (.lst b) = some (.ok (.lst (a ++ b))) := by
  show (if a.length + b.length ≤ 100000 then _ else none) = _
  rw [if_pos h]
def EW (ns : List Int) (a1 a2 a3 a4 a5 a6 a7 a8 a9 a10 : Option Dv) : Ev := [some (.scr ns), a1, a2, a3, a4, a5, a6, a7, a8, a9, a10, none, none, none]
theorem join_of {i : Nat} {sep : Str} {ρ : Ev} {ts : List Str} {f : FnE} (hf : f ρ = some (.ok (.lst (ts.map Dv.str)))) (hs : sep.length ≤ 10) (h : ∀ t ∈ ts, t.length ≤ 20000) (hl : ts.length ≤ 20) : fM joinD (fC (.str sep)) (aCons f aNil) ρ = some (.ok (.str (Txt.join sep ts))) := by
  have z : aCons f aNil ρ = some (.ok [.lst (ts.map Dv.str)]) := aCons_of hf aNil_of
  unfold fM
  show bnd (aCons f aNil ρ) (fun xs => joinD sep xs) = _
  rw [z]
  exact jn_of hs h hl
theorem bOr_FF {a b : FnB} {ρ : Ev} (h : a ρ = some (.ok false)) (h' : b ρ = some (.ok false)) : bOr a b ρ = some (.ok false) := by unfold bOr; rw [h]; exact h'
theorem put_odd {x : Str} (hx : x ∈ oddP) (l1 l2 : List Str) (ds : List Dv) : (l1 ++ x :: l2).foldl put ds = (l1 ++ l2).foldl put ds := by
  rw [List.foldl_append, List.foldl_append, List.foldl_cons]
  congr 1
  unfold put
  rw [t_odd hx]
theorem put_ahd (nm w : Str) (ps : List Str) : (aheadP ++ ps).foldl put (rd0 nm w) = ps.foldl put [.str nm, .str w, .str "q.r", .str "/q", .int 17, .int 4, .bl false, .str "any"] := by
  have e : aheadP.foldl put (rd0 nm w) = [.str nm, .str w, .str "q.r", .str "/q", .int 17, .int 4, .bl false, .str "any"] := by kernel_rfl
  rw [List.foldl_append, e]
theorem law_true (ns : List Int) (hl : ns.length ≤ 63) : F_law [.scr ns] = some (.ok (.bl true)) := by
  obtain ⟨n20, m20, e20⟩ := name_ok ns hl 20
  obtain ⟨n50, m50, e50⟩ := name_ok ns hl 50
  obtain ⟨nm, w, H, P, U, LL, S, R, g0, eg⟩ := given_ok ns hl 0 m20
  obtain ⟨nm', w', H', P', U', LL', S', R', g0', eg'⟩ := given_ok ns hl 30 m50
  obtain ⟨h, p, u, l, g, q⟩ := gw_of g0
  obtain ⟨h', p', u', l', g', q'⟩ := gw_of g0'
  rw [q] at eg
  rw [q'] at eg'
  have hT := txt_given (vv_of g) (isg_ok g)
  have hT' := txt_given (vv_of g') (isg_ok g')
  have okG := (it_gv g).okP (by omega)
  have plG := (it_gv g).p
  have okG' := (it_gv g').okP (by omega)
  let t := T nm w h p u l S R
  let Gd := gv nm w h p u l S R
  let Gd' := gv nm' w' h' p' u' l' S' R'
  let ps := PL h p u l S R
  have psl : ps.length ≤ 6 := PL_len
  have psa := PL_all g
  let parts : List Str := T0 nm w :: ps
  let L : Dv := .lst (parts.map Dv.str)
  let turned : List Str := T0 nm w :: ps.reverse
  let L5 : Dv := .lst (turned.map Dv.str)
  have fl : (T0 nm w).length ≤ 200 := (ptk_s (first_s g.nm g.w)).2.2.2.1
  have v0 : v_law_0 (EW ns none none none none none none none none none none) = some (.ok Gd) := call3 F__law_given rfl rfl (call2 F__law_name rfl rfl e20) eg
  have v1 : v_law_1 (EW ns (some Gd) none none none none none none none none none) = some (.ok Gd') := call3 F__law_given rfl rfl (call2 F__law_name rfl rfl e50) eg'
  have v2 : v_law_2 (EW ns (some Gd) (some Gd') none none none none none none none none) = some (.ok (.str t)) := call1 F_given_text rfl hT
  have rT := read_T g
  have neG : neX Gd Gd = bo false := ne_self okG plG
  have c0 : c_law_0 (EW ns (some Gd) (some Gd') (some (.str t)) none none none none none none none) = some (.ok false) := by
    have r1 : fCall F_read_given 1 (aCons (fVar 3) aNil) (EW ns (some Gd) (some Gd') (some (.str t)) none none none none none none none) = some (.ok Gd) := call1 F_read_given rfl rT
    have r2 : fCall F__law_text 1 (aCons (fVar 1) aNil) (EW ns (some Gd) (some Gd') (some (.str t)) none none none none none none none) = some (.ok (.str t)) := call1 F__law_text rfl (txt_law (vv_of g))
    have r3 : fCall F_is_given 1 (aCons (fCall F_read_given 1 (aCons (fVar 3) aNil)) aNil) (EW ns (some Gd) (some Gd') (some (.str t)) none none none none none none none) = bo true := call1 F_is_given r1 (isg_ok g)
    refine bOr_FF (fB_of ((f2_of r1 (y := Gd) rfl).trans neG)) (bOr_FF (fB_of ((f2_of (x := .str t) rfl r2).trans ?_)) (bNot_of (fB_of r3)))
    show some (Rs.ok (Dv.bl (!seq t t))) = _
    rw [seq_refl]; rfl
  have inj : seq (T nm' w' h' p' u' l' S' R') t = PyData.eqv (toPy Gd') (toPy Gd) := by
    rw [Bool.eq_iff_iff]
    constructor
    · intro e
      have e' := seq_true e
      have r' := read_T g'
      rw [e'] at r'
      have e2 : Gd' = Gd := by
        have := r'.symm.trans rT
        exact Rs.ok.inj (Option.some.inj this)
      rw [e2]
      exact eqv_refl Gd plG
    · intro e
      rw [eqv_gv, decide_eq_true_eq] at e
      obtain ⟨q1, q2, q3, q4, q5, q6, q7, q8⟩ := e
      show seq _ (T nm w h p u l S R) = true
      rw [q1, q2, q3, q4, q5, q6, q7, q8]
      exact seq_refl _
  have c1 : c_law_1 (EW ns (some Gd) (some Gd') (some (.str t)) none none none none none none none) = some (.ok false) := by
    have r1 : fCall F_given_text 1 (aCons (fVar 2) aNil) (EW ns (some Gd) (some Gd') (some (.str t)) none none none none none none none) = some (.ok (.str (T nm' w' h' p' u' l' S' R'))) := call1 F_given_text rfl hT'
    have r2 : f2 eqX (fCall F_given_text 1 (aCons (fVar 2) aNil)) (fVar 3) (EW ns (some Gd) (some Gd') (some (.str t)) none none none none none none none) = bo (PyData.eqv (toPy Gd') (toPy Gd)) := by
      refine (f2_of r1 (y := .str t) rfl).trans ?_
      show bo (seq (T nm' w' h' p' u' l' S' R') t) = _
      rw [inj]
    have r3 : f2 eqX (fVar 2) (fVar 1) (EW ns (some Gd) (some Gd') (some (.str t)) none none none none none none none) = bo (PyData.eqv (toPy Gd') (toPy Gd)) := by
      refine (f2_of (x := Gd') rfl (y := Gd) rfl).trans ?_
      have z : eqS Gd' Gd = none := rfl
      unfold eqX
      rw [z, okG, okG']
      rfl
    refine fB_of ((f2_of r2 r3).trans ?_)
    show bo (!(PyData.eqv (toPy Gd') (toPy Gd) == PyData.eqv (toPy Gd') (toPy Gd))) = _
    simp
  have tl : t.length ≤ 100000 := by
    show (T nm w h p u l S R).length ≤ _
    rw [← T_join, join_fold]
    have := fold_len (Str.ofString "; ") (by decide) (PL h p u l S R) (T0 nm w) fun x hx => (ptk (psa x hx)).l
    have : (PL h p u l S R).length ≤ 6 := PL_len
    omega
  have v3 : v_law_3 (EW ns (some Gd) (some Gd') (some (.str t)) none none none none none none none) = some (.ok L) := by
    show splitD t [.str (Str.ofString "; ")] = _
    have e : Txt.split t (Str.ofString "; ") = parts := by
      show Txt.split (T nm w h p u l S R) _ = _
      rw [← T_join]
      exact spl_semi g.nm g.w psa
    show (if (Str.ofString "; ").length ≠ 0 ∧ t.length ≤ 100000 ∧ (Txt.split t (Str.ofString "; ")).length ≤ 100000 then some (Rs.ok (Dv.lst ((Txt.split t (Str.ofString "; ")).map Dv.str))) else none) = _
    rw [e, if_pos ⟨by decide, tl, by show ps.length + 1 ≤ _; omega⟩]
  have hd1 : fCutT (fVar 4) oNone (oSome (fC (.int 1))) (EW ns (some Gd) (some Gd') (some (.str t)) (some L) none none none none none none) = some (.ok (.lst [.str (T0 nm w)])) := by
    show some (Rs.ok (Dv.lst (cutL (parts.map Dv.str) none (some ((1 : Nat) : Int))))) = _
    rw [cutL_to _ _ (by simp [parts])]
    rfl
  have v4 : v_law_4 (EW ns (some Gd) (some Gd') (some (.str t)) (some L) none none none none none none) = some (.ok L5) := by
    have z2 : fCutT (fVar 4) (oSome (fC (.int 1))) oNone (EW ns (some Gd) (some Gd') (some (.str t)) (some L) none none none none none none) = some (.ok (.lst (ps.map Dv.str))) := by
      show some (Rs.ok (Dv.lst (cutL (parts.map Dv.str) (some ((1 : Nat) : Int)) none))) = _
      rw [cutL_from _ _ (by simp [parts])]
      rfl
    have z3 : fBackL (fCutT (fVar 4) (oSome (fC (.int 1))) oNone) (EW ns (some Gd) (some Gd') (some (.str t)) (some L) none none none none none none) = some (.ok (.lst (ps.reverse.map Dv.str))) := by
      unfold fBackL; rw [z2]
      show some (Rs.ok (Dv.lst (ps.map Dv.str).reverse)) = _
      rw [List.map_reverse]
    refine (f2_of hd1 z3).trans ((addT_l (by simp; omega)).trans rfl)
  have tlen : ∀ {ts : List Str}, (∀ x ∈ ts, x ∈ allP) → ∀ x ∈ T0 nm w :: ts, x.length ≤ 20000 := by
    intro ts hts x hx
    rcases List.mem_cons.mp hx with rfl | hx
    · omega
    · have := (ptk (hts x hx)).l; omega
  have prv : ∀ x ∈ ps.reverse, x ∈ allP := fun x hx => psa x (List.mem_reverse.mp hx)
  have c2 : c_law_2 (EW ns (some Gd) (some Gd') (some (.str t)) (some L) (some L5) none none none none none) = some (.ok false) := by
    have j1 : fM (joinD) (fC (.str ";")) (aCons (fVar 5) aNil) (EW ns (some Gd) (some Gd') (some (.str t)) (some L) (some L5) none none none none none) = some (.ok (.str (Txt.join (Str.ofString ";") turned))) := join_of (i := 0) (sep := Str.ofString ";") rfl sep3.2.1 (tlen prv) (by simp [turned]; omega)
    have j2 : fM (joinD) (fC (.str "  ;  ")) (aCons (fVar 4) aNil) (EW ns (some Gd) (some Gd') (some (.str t)) (some L) (some L5) none none none none none) = some (.ok (.str (Txt.join (Str.ofString "  ;  ") parts))) := join_of (i := 0) (sep := Str.ofString "  ;  ") rfl sep3.2.2 (tlen psa) (by simp [parts]; omega)
    have r1 := (rd_semi (nm := nm) (w := w) g.nm g.w prv (by simp; omega)).2.1
    rw [put_r g] at r1
    have r2 := (rd_semi (nm := nm) (w := w) g.nm g.w psa (by show ps.length ≤ 50; omega)).2.2
    rw [put_0 g] at r2
    exact bOr_FF (fB_of ((f2_of (call1 F_read_given j1 r1) (y := Gd) rfl).trans neG)) (fB_of ((f2_of (call1 F_read_given j2 r2) (y := Gd) rfl).trans neG))
  obtain ⟨d60, a60, b60, e60⟩ := drawn_ok ns hl 60 (parts.length : Int) (by show (0 : Int) < ((ps.length + 1 : Nat) : Int); omega)
  obtain ⟨d61, a61, b61, e61⟩ := drawn_ok ns hl 61 9 (by omega)
  obtain ⟨od, modd, iodd⟩ := ix_mem (l := oddP.map Dv.str) a61 b61
  obtain ⟨odd, hodd, rfl⟩ := List.mem_map.mp modd
  let k := d60.toNat
  have hk : (d60 : Int) = (k : Int) := by omega
  have hk1 : k < parts.length := by omega
  have hk2 : k ≤ ps.length := by have : parts.length = ps.length + 1 := rfl; omega
  have v5 : v_law_5 (EW ns (some Gd) (some Gd') (some (.str t)) (some L) (some L5) none none none none none) = some (.ok (.int ((k + 1 : Nat) : Int))) := by
    have z : fB1 lenD (aCons (fVar 4) aNil) (EW ns (some Gd) (some Gd') (some (.str t)) (some L) (some L5) none none none none none) = some (.ok (.int (parts.length : Int))) := by
      show some (Rs.ok (Dv.int ((parts.map Dv.str).length : Int))) = _
      rw [List.length_map]
    refine (f2_of (x := .int 1) rfl (call3 F__law_drawn rfl rfl z e60)).trans ?_
    show some (Rs.ok (Dv.int (1 + d60))) = _
    congr 3
    omega
  let L7 : Dv := .lst (oddP.map Dv.str)
  let A : Option Dv := some (.int ((k + 1 : Nat) : Int))
  have v6 : v_law_6 (EW ns (some Gd) (some Gd') (some (.str t)) (some L) (some L5) A none none none none) = some (.ok L7) := rfl
  have v7 : v_law_7 (EW ns (some Gd) (some Gd') (some (.str t)) (some L) (some L5) A (some L7) none none none) = some (.ok (.str odd)) :=
    (f2_of (x := L7) rfl (call3 F__law_drawn rfl rfl rfl e61)).trans iodd
  have c3 : c_law_3 (EW ns (some Gd) (some Gd') (some (.str t)) (some L) (some L5) A (some L7) (some (.str odd)) none none) = some (.ok false) := by
    have z1 : fCutT (fVar 4) oNone (oSome (fVar 6)) (EW ns (some Gd) (some Gd') (some (.str t)) (some L) (some L5) A (some L7) (some (.str odd)) none none) = some (.ok (.lst (.str (T0 nm w) :: (ps.take k).map Dv.str))) := by
      show some (Rs.ok (Dv.lst (cutL (parts.map Dv.str) none (some ((k + 1 : Nat) : Int))))) = _
      rw [cutL_to _ _ (by simp [parts]; omega)]
      show some (Rs.ok (Dv.lst (.str (T0 nm w) :: (ps.map Dv.str).take k))) = _
      rw [List.map_take]
    have z2 : fCutT (fVar 4) (oSome (fVar 6)) oNone (EW ns (some Gd) (some Gd') (some (.str t)) (some L) (some L5) A (some L7) (some (.str odd)) none none) = some (.ok (.lst ((ps.drop k).map Dv.str))) := by
      show some (Rs.ok (Dv.lst (cutL (parts.map Dv.str) (some ((k + 1 : Nat) : Int)) none))) = _
      rw [cutL_from _ _ (by simp [parts]; omega)]
      show some (Rs.ok (Dv.lst ((ps.map Dv.str).drop k))) = _
      rw [List.map_drop]
    have z3 : (f2 addT (f2 addT (fCutT (fVar 4) oNone (oSome (fVar 6))) (fLst (aCons (fVar 8) aNil))) (fCutT (fVar 4) (oSome (fVar 6)) oNone)) (EW ns (some Gd) (some Gd') (some (.str t)) (some L) (some L5) A (some L7) (some (.str odd)) none none) = some (.ok (.lst ((T0 nm w :: (ps.take k ++ odd :: ps.drop k)).map Dv.str))) := by
      refine (f2_of ((f2_of z1 (y := .lst [.str odd]) rfl).trans (addT_l (by simp; omega))) z2).trans ((addT_l (by simp; omega)).trans ?_)
      simp
    have pa : ∀ x ∈ ps.take k ++ odd :: ps.drop k, x ∈ allP := by
      intro x hx
      rcases List.mem_append.mp hx with hx | hx
      · exact psa x (List.mem_of_mem_take hx)
      · rcases List.mem_cons.mp hx with rfl | hx
        · exact odd_all hodd
        · exact psa x (List.mem_of_mem_drop hx)
    have ln : (ps.take k ++ odd :: ps.drop k).length ≤ 10 := by simp; omega
    have j := join_of (i := 0) (sep := Str.ofString "; ") z3 sep3.1 (tlen pa) (by rw [List.length_cons]; omega)
    have r := (rd_semi (nm := nm) (w := w) g.nm g.w pa (by omega)).1
    rw [put_odd hodd, List.take_append_drop, put_0 g] at r
    exact fB_of ((f2_of (call1 F_read_given j r) (y := Gd) rfl).trans neG)
  let ahd : List Str := T0 nm w :: (aheadP ++ ps)
  let L9 : Dv := .lst (ahd.map Dv.str)
  have v8 : v_law_8 (EW ns (some Gd) (some Gd') (some (.str t)) (some L) (some L5) A (some L7) (some (.str odd)) none none) = some (.ok L9) := by
    have z1 : fCutT (fVar 4) oNone (oSome (fC (.int 1))) (EW ns (some Gd) (some Gd') (some (.str t)) (some L) (some L5) A (some L7) (some (.str odd)) none none) = some (.ok (.lst [.str (T0 nm w)])) := hd1
    have z2 : fCutT (fVar 4) (oSome (fC (.int 1))) oNone (EW ns (some Gd) (some Gd') (some (.str t)) (some L) (some L5) A (some L7) (some (.str odd)) none none) = some (.ok (.lst (ps.map Dv.str))) := by
      show some (Rs.ok (Dv.lst (cutL (parts.map Dv.str) (some ((1 : Nat) : Int)) none))) = _
      rw [cutL_from _ _ (by simp [parts])]
      rfl
    refine (f2_of ((f2_of z1 (y := .lst (aheadP.map Dv.str)) rfl).trans (addT_l (by simp [aheadP]))) z2).trans ((addT_l (by simp [aheadP]; omega)).trans ?_)
    simp [L9, ahd]
  have paa : ∀ x ∈ aheadP ++ ps, x ∈ allP := by
    intro x hx
    rcases List.mem_append.mp hx with hx | hx
    · exact ahd_all hx
    · exact psa x hx
  have ral : (aheadP ++ ps).length ≤ 10 := by simp [aheadP]; omega
  let due : List Dv := [gs h (.str "q.r"), gs p (.str "/q"), gi u (.int 17), gi l (.int 4)]
  let Ag : Dv := .tup ([.str nm, .str w] ++ due ++ [.bl S, .str R])
  have v9 : v_law_9 (EW ns (some Gd) (some Gd') (some (.str t)) (some L) (some L5) A (some L7) (some (.str odd)) (some L9) none) = some (.ok Ag) := by
    have j := join_of (i := 0) (sep := Str.ofString "; ") (f := fVar 9) (ρ := EW ns (some Gd) (some Gd') (some (.str t)) (some L) (some L5) A (some L7) (some (.str odd)) (some L9) none) (ts := ahd) rfl sep3.1 (tlen paa) (by show (aheadP ++ ps).length + 1 ≤ 20; omega)
    have r := (rd_semi (nm := nm) (w := w) g.nm g.w paa (by omega)).1
    rw [put_ahd, put_PL g, near_R g, gb_S] at r
    exact call1 F_read_given j r
  let E9 : Ev := EW ns (some Gd) (some Gd') (some (.str t)) (some L) (some L5) A (some L7) (some (.str odd)) (some L9) (some Ag)
  have iS : ∀ o : Option Str, imm (eS o) = true := fun o => by cases o <;> rfl
  have iO : ∀ o : Option Int, imm (eO o) = true := fun o => by cases o <;> rfl
  let Z : List Dv := [.tup [eS h, .str "q.r"], .tup [eS p, .str "/q"], .tup [eO u, .int 17], .tup [eO l, .int 4]]
  have hsrc : (fun ρ => bnd ((aCons (fCutT (fVar 1) (oSome (fC (.int 2))) (oSome (fC (.int 6)))) (aCons (fTup (aCons (fC (.str "q.r")) (aCons (fC (.str "/q")) (aCons (fC (.int 17)) (aCons (fC (.int 4)) aNil))))) aNil)) ρ) zipD) E9 = some (.ok Z) := by kernel_rfl
  have hZ : imms Z = true := by
    simp [Z, imms, imm, iS, iO]
  have bS : ∀ (o : Option Str) (c : Dv) (ds : List Dv), ds.length ≤ 10 → b_law_0 ((E9.set 12 (some (eS o))).set 13 (some c)) ds = some (.nx ((E9.set 12 (some (eS o))).set 13 (some c)) (ds ++ [gs o c])) := by
    intro o c ds hd
    unfold b_law_0 oApp
    rw [if_pos (by omega)]
    cases o <;> rfl
  have bO : ∀ (o : Option Int) (c : Dv) (ds : List Dv), ds.length ≤ 10 → b_law_0 ((E9.set 12 (some (eO o))).set 13 (some c)) ds = some (.nx ((E9.set 12 (some (eO o))).set 13 (some c)) (ds ++ [gi o c])) := by
    intro o c ds hd
    unfold b_law_0 oApp
    rw [if_pos (by omega)]
    cases o <;> rfl
  have hloop : loopP 12 13 [12, 13] b_law_0 Z E9 [] = some (.nx E9 due) := by
    show (match b_law_0 ((E9.set 12 (some (eS h))).set 13 (some (.str "q.r"))) [] with
      | some (.nx ρ' xs') => loopP 12 13 [12, 13] b_law_0 [.tup [eS p, .str "/q"], .tup [eO u, .int 17], .tup [eO l, .int 4]] ρ' xs'
      | o => o) = _
    rw [bS h _ _ (by simp)]
    show (match b_law_0 ((E9.set 12 (some (eS p))).set 13 (some (.str "/q"))) [gs h (.str "q.r")] with
      | some (.nx ρ' xs') => loopP 12 13 [12, 13] b_law_0 [.tup [eO u, .int 17], .tup [eO l, .int 4]] ρ' xs'
      | o => o) = _
    rw [bS p _ _ (by simp)]
    show (match b_law_0 ((E9.set 12 (some (eO u))).set 13 (some (.int 17))) [gs h (.str "q.r"), gs p (.str "/q")] with
      | some (.nx ρ' xs') => loopP 12 13 [12, 13] b_law_0 [.tup [eO l, .int 4]] ρ' xs'
      | o => o) = _
    rw [bO u _ _ (by simp)]
    show (match b_law_0 ((E9.set 12 (some (eO l))).set 13 (some (.int 4))) [gs h (.str "q.r"), gs p (.str "/q"), gi u (.int 17)] with
      | some (.nx ρ' xs') => loopP 12 13 [12, 13] b_law_0 [] ρ' xs'
      | o => o) = _
    rw [bO l _ _ (by simp)]
    rfl
  have itA : It1 1 Ag := by
    refine it_tup (k := 0) fun d hd => ?_
    have q1 : PyData.canLay0 (.str (Str.ofString "q.r")) = true := by kernel_rfl
    have q2 : PyData.canLay0 (.str (Str.ofString "/q")) = true := by kernel_rfl
    simp only [due, List.cons_append, List.nil_append, List.mem_cons, List.not_mem_nil, or_false] at hd
    rcases hd with rfl | rfl | rfl | rfl | rfl | rfl | rfl | rfl
    · exact it_str (all_mem (p := fun x => PyData.canLay0 (.str x)) lay_all.1 g.nm)
    · exact it_str (all_mem (p := fun x => PyData.canLay0 (.str x)) lay_all.2.1 g.w)
    · cases h with
      | none => exact it_str q1
      | some x => exact it_str (all_mem (p := fun x => PyData.canLay0 (.str x)) lay_all.2.2.1 (g.h x rfl))
    · cases p with
      | none => exact it_str q2
      | some x => exact it_str (all_mem (p := fun x => PyData.canLay0 (.str x)) lay_all.2.2.2 (g.p x rfl))
    · cases u <;> exact it_int
    · cases l <;> exact it_int
    · exact it_bl
    · rcases g.r with e | e <;> rw [e]
      · exact it_str lay2.1
      · exact it_str lay2.2
  have hret : oRet 11 (f2 eqX (fVar 10) (f2 addT (f2 addT (fCutT (fVar 1) oNone (oSome (fC (.int 2)))) (fB1 tupleD (aCons (fVar 11) aNil))) (fCutT (fVar 1) (oSome (fC (.int 6))) oNone))) E9 due = some (.rt (.bl true)) := by
    have z : (f2 addT (f2 addT (fCutT (fVar 1) oNone (oSome (fC (.int 2)))) (fB1 tupleD (aCons (fVar 11) aNil))) (fCutT (fVar 1) (oSome (fC (.int 6))) oNone)) (E9.set 11 (some (.lst due))) = some (.ok Ag) := by kernel_rfl
    unfold oRet
    rw [(f2_of (f := fVar 10) (x := Ag) rfl z).trans (eq_self (itA.okP (by omega)) itA.p)]
    rfl
  refine run_rt ?_
  show B_law (EW ns none none none none none none none none none none) = _
  unfold B_law
  rw [fSeq_nx (fSet_nx (ρ' := EW ns (some Gd) none none none none none none none none none) v0 rfl)]
  rw [fSeq_nx (fSet_nx (ρ' := EW ns (some Gd) (some Gd') none none none none none none none none) v1 rfl)]
  rw [fSeq_nx (fSet_nx (ρ' := EW ns (some Gd) (some Gd') (some (.str t)) none none none none none none none) v2 rfl)]
  rw [fSeq_nx (ifS_skip c0)]
  rw [fSeq_nx (ifS_skip c1)]
  rw [fSeq_nx (fSet_nx (ρ' := EW ns (some Gd) (some Gd') (some (.str t)) (some L) none none none none none none) v3 rfl)]
  rw [fSeq_nx (fSet_nx (ρ' := EW ns (some Gd) (some Gd') (some (.str t)) (some L) (some L5) none none none none none) v4 rfl)]
  rw [fSeq_nx (ifS_skip c2)]
  rw [fSeq_nx (fSet_nx (ρ' := EW ns (some Gd) (some Gd') (some (.str t)) (some L) (some L5) A none none none none) v5 rfl)]
  rw [fSeq_nx (fSet_nx (ρ' := EW ns (some Gd) (some Gd') (some (.str t)) (some L) (some L5) A (some L7) none none none) v6 rfl)]
  rw [fSeq_nx (fSet_nx (ρ' := EW ns (some Gd) (some Gd') (some (.str t)) (some L) (some L5) A (some L7) (some (.str odd)) none none) v7 rfl)]
  rw [fSeq_nx (ifS_skip c3)]
  rw [fSeq_nx (fSet_nx (ρ' := EW ns (some Gd) (some Gd') (some (.str t)) (some L) (some L5) A (some L7) (some (.str odd)) (some L9) none) v8 rfl)]
  rw [fSeq_nx (fSet_nx (ρ' := E9) v9 rfl)]
  unfold fOwn
  rw [show aNil E9 = some (.ok []) from rfl]
  show (match oSeq (oForP 12 13 [12, 13] _ b_law_0) _ E9 [] with
    | some (.nx ρ' ds') => some (Fl.nx (ρ'.set 11 (some (.lst ds'))))
    | some (.rt d) => some (.rt d)
    | none => none) = _
  unfold oSeq oForP
  rw [hsrc]
  show (match (match (if imms Z = true then loopP 12 13 [12, 13] b_law_0 Z E9 [] else none) with | some (.nx ρ' ds') => _ | o => o) with
    | some (.nx ρ' ds') => some (Fl.nx (ρ'.set 11 (some (.lst ds'))))
    | some (.rt d) => some (.rt d)
    | none => none) = _
  rw [if_pos hZ, hloop]
  show (match oRet 11 _ E9 due with
    | some (.nx ρ' ds') => some (Fl.nx (ρ'.set 11 (some (.lst ds'))))
    | some (.rt d) => some (.rt d)
    | none => none) = _
  rw [hret]
end G
namespace G
open PySem PySem.Spec PyProof.Rows L2 FD
theorem walk {l : PySem.W.OpenLaw} {q : Program} {loose : List Str} {XP : (Str → Option Value) → Heap → Prop} {YP : World → Heap → Prop} {d : DefRec} {K : Params → PySem.W.Frag} (hn : l.most = some 63) (hdf : d.params.defaults = [])
    (hY : ∀ (w : World) (h : Heap), YP w h → (K w.params).In h)
    (F : ∀ (w : World) (mg : Str → Option Value) (fa : Addr) (h : Heap), (K w.params).In h → h.Ns mainGlobals mg → mg d.name = some (.ref fa) →
      ∃ fd : FuncData, (∀ (s : Shared) (u : Value), BindsTo s fd ⟨[u], []⟩ [("_law_script", u)]) ∧ ∀ base : Heap, (K w.params).In base → base.Ns mainGlobals mg → FnOk l.prog w (K w.params) mg base CX0 7 fa fd ["_law_script"] (spF (K w.params) F_law 1)) :
    PySem.W.WalkO q loose XP YP l.row.toRowW d [] (fun f vs => PySem.call f vs) :=
  L2.walk_of (n := 63) (k := 7) (x := "_law_script") (CX := fun _ => CX0) (sp := fun w => spF (K w.params) F_law 1) hn (by decide) hdf ⟨rfl, by decide, by decide⟩ hY F
    (fun _ _ a ns hl _ hS => ⟨[.scr ns], ⟨.ref a, [], rfl, ⟨a, rfl, hS⟩, rfl⟩, rfl, by rw [law_true ns hl]; exact fun v H' _ r => r⟩) fun _ _ _ _ _ z => z
end G
open PySem PySem.W PyProof.Rows
set_option maxRecDepth 100000 in
set_option maxHeartbeats 0 in
theorem PySem.Challenge.cw_notejar_k32_whole_giving_holds : PySem.Challenge.rw_notejar_k32_whole_giving.Holds := by
  w_on; o_law
  refine PySem.W.holds_open (q := G.VQ) (loose := G.VL) (Xt := fun s => recOk [] s) (XP := fun _ _ => True) (Yf := Hook.obs (kHook G.KK G.KA G.KA_ok)) (Ya := Hook.val (kHook G.KK G.KA G.KA_ok)) (YP := Hook.says (kHook G.KK G.KA G.KA_ok)) (N := 3008) G.left (Hook.of (kHook G.KK G.KA G.KA_ok)) (Hook.keeps (kHook G.KK G.KA G.KA_ok)) (fun _ _ => trivial) (fun _ _ _ _ _ => trivial) (by rfl) (by rfl) (by rfl) (fun s e => recFacts_of e) (by rfl) (by first | assumption | decide +kernel) (by decide +kernel) ⟨rfl, rfl, rfl, rfl, rfl, by decide +kernel⟩ ?hw ?hc
  (case hw => w_witness2)
  refine G.walk (l := PySem.Challenge.rw_notejar_k32_whole_giving) rfl rfl (fun w h Y => PySem.W.kIn_of Y) ?F
  case F =>
    intro w mg fa h KX hG hmg
    exact G.all_mk (f1 := 157) (f2 := 164) (f3 := 171) (f4 := 183) (f5 := 197) (f6 := 204) (f7 := 51) (f8 := 84) (f9 := 91) (f10 := 44) (f11 := 65) (f12 := 70) (f13 := 98) (f14 := 77) (f15 := 110) (f16 := 58) (f17 := 103) (f18 := 117) (f19 := 124) (f20 := 150) (f21 := 131) (f22 := 138) (f23 := 143) (f24 := 211) (od24 := Option.none) (an24 := Option.none) (sl24 := #[]) (oc24 := Value.type "function") (kV24 := Value.none) (dc24 := Value.none) (pm24 := (G.kS "law_notejar_k32_whole_giving" 397)) (cd24 := (G.kR 210)) (ct24 := Value.none) (tk1 := 250) (tk2 := 318) (tk3 := 324) (tk4 := 314) (tk5 := 330) (tk6 := 320) (tk7 := 328) (tk8 := 326) (tk9 := 322) (tk10 := 316) (tk11 := 252) (tk12 := 286) (tk13 := 254) (tk14 := 306) (tk15 := 275) (tk16 := 310) (tk17 := 312) (tk18 := 256) (tk19 := 304) (tk20 := 308) (tk21 := 273) KX hG hmg (G.af 157 "law_notejar_k32_whole_giving" 397 156 (by kernel_rfl) (by kernel_rfl) (by kernel_rfl) (by kernel_rfl)) (G.af 164 "law_notejar_k32_whole_giving" 397 163 (by kernel_rfl) (by kernel_rfl) (by kernel_rfl) (by kernel_rfl)) (G.af 171 "law_notejar_k32_whole_giving" 397 170 (by kernel_rfl) (by kernel_rfl) (by kernel_rfl) (by kernel_rfl)) (G.af 183 "law_notejar_k32_whole_giving" 397 182 (by kernel_rfl) (by kernel_rfl) (by kernel_rfl) (by kernel_rfl)) (G.af 197 "law_notejar_k32_whole_giving" 397 196 (by kernel_rfl) (by kernel_rfl) (by kernel_rfl) (by kernel_rfl)) (G.af 204 "law_notejar_k32_whole_giving" 397 203 (by kernel_rfl) (by kernel_rfl) (by kernel_rfl) (by kernel_rfl)) (G.af 51 "notejar.kinds" 223 50 (by kernel_rfl) (by kernel_rfl) (by kernel_rfl) (by kernel_rfl)) (G.af 84 "notejar.asks" 284 83 (by kernel_rfl) (by kernel_rfl) (by kernel_rfl) (by kernel_rfl)) (G.af 91 "notejar.asks" 284 90 (by kernel_rfl) (by kernel_rfl) (by kernel_rfl) (by kernel_rfl)) (G.af 44 "notejar.kinds" 223 43 (by kernel_rfl) (by kernel_rfl) (by kernel_rfl) (by kernel_rfl)) (G.af 65 "notejar.names" 248 64 (by kernel_rfl) (by kernel_rfl) (by kernel_rfl) (by kernel_rfl)) (G.af 70 "notejar.names" 248 69 (by kernel_rfl) (by kernel_rfl) (by kernel_rfl) (by kernel_rfl)) (G.af 98 "notejar.giving" 302 97 (by kernel_rfl) (by kernel_rfl) (by kernel_rfl) (by kernel_rfl)) (G.af 77 "notejar.paths" 271 76 (by kernel_rfl) (by kernel_rfl) (by kernel_rfl) (by kernel_rfl)) (G.af 110 "notejar.giving" 302 109 (by kernel_rfl) (by kernel_rfl) (by kernel_rfl) (by kernel_rfl)) (G.af 58 "notejar.kinds" 223 57 (by kernel_rfl) (by kernel_rfl) (by kernel_rfl) (by kernel_rfl)) (G.af 103 "notejar.giving" 302 102 (by kernel_rfl) (by kernel_rfl) (by kernel_rfl) (by kernel_rfl)) (G.af 117 "notejar.giving" 302 116 (by kernel_rfl) (by kernel_rfl) (by kernel_rfl) (by kernel_rfl)) (G.af 124 "notejar.giving" 302 123 (by kernel_rfl) (by kernel_rfl) (by kernel_rfl) (by kernel_rfl)) (G.af 150 "notejar.giving" 302 149 (by kernel_rfl) (by kernel_rfl) (by kernel_rfl) (by kernel_rfl)) (G.af 131 "notejar.giving" 302 130 (by kernel_rfl) (by kernel_rfl) (by kernel_rfl) (by kernel_rfl)) (G.af 138 "notejar.giving" 302 137 (by kernel_rfl) (by kernel_rfl) (by kernel_rfl) (by kernel_rfl)) (G.af 143 "notejar.giving" 302 142 (by kernel_rfl) (by kernel_rfl) (by kernel_rfl) (by kernel_rfl)) (by kernel_rfl) (by kernel_rfl) (by kernel_rfl) (by kernel_rfl) (by kernel_rfl) (by kernel_rfl) (by kernel_rfl) (by kernel_rfl) (by kernel_rfl) (by kernel_rfl) (by kernel_rfl) (by kernel_rfl) (by kernel_rfl) (by kernel_rfl) (by kernel_rfl) (by kernel_rfl) (by kernel_rfl) (by kernel_rfl) (by kernel_rfl) (by kernel_rfl) (by kernel_rfl) (by kernel_rfl) (by kernel_rfl) (by kernel_rfl) (by kernel_rfl) (by kernel_rfl) (by kernel_rfl) (by kernel_rfl) (by kernel_rfl) (by kernel_rfl) (by kernel_rfl) (by kernel_rfl) (by kernel_rfl)
#print axioms PySem.Challenge.cw_notejar_k32_whole_giving_holds
