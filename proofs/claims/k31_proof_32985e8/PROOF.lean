import PyProof.Rows.All
import Wide.All
import OpenK.AllK
import Wide.FinOn
import Lean
import PyProof.EqAt
import PyProof.EqKinds
import PyProof.TupleCall
import PySem.SetTable
import PyProof.SetKind
import PyProof.TupleKey
import PyProof.DictKinds
import PyProof.Rows.SetFrom
import PyProof.ZipIter
import KE.KIntText
import PyProof.EnumIter
import PyProof.Rows.SortStr
import PyProof.Rows.SortWalk
import PyProof.Rows.MinMaxN
import PyProof.ConsumeWalk
import PyProof.CollectWalk
import PyProof.WalksMore
import PyProof.CollectStr
import PyProof.Rows.SortShellK
import PyProof.Rows.SortRunsK
import PyProof.SeqI3
import KE.KSortKey
import PyProof.Rows.CallKwBuiltin
import PyProof.SumAny
import PyProof.Rows.StrFromFirst
import PyProof.StrLawsIn
import PyProof.FitsReplace
import KE.IntTextLaws
import PyProof.Rows.RegStrFacts
import PySem.Challenge.RW_notejar_k31_read_given
set_option maxHeartbeats 4000000
set_option Elab.async false
namespace TR
open PySem PySem.W
def db (tb : String → Option Builtin) (p : Program) (w : World) (n₀ : Nat) (ann : Option Value) : Nat → SharedT → Thread → Option SharedT
 | 0, _, _ => none
 | n + 1, s, t => match through t with
  | true => some s
  | false => match stepOk n₀ ann t with
   | false => none
   | true => match stepT (denote tb) p w s t with
    | some (s', t') => db tb p w n₀ ann n s' t'
    | none => none
def ed : List Obj → BT → Nat → Option (BT × Nat)
 | [], t, n => some (t, n)
 | o :: os, t, n => match ((t.ins n o).get n).isSome with
  | true => ed os (t.ins n o) (n + 1)
  | false => none
def nv (tb : String → Option Builtin) (p : Program) (w : World) (N : Nat) : Option Shared := (fencedOpening tb p w N).bind fun s₀ => match s₀.heap.isNs mainGlobals && s₀.gens.size == 0 with
 | true => (ed s₀.heap.objs.toList .nil 0).bind fun x => (db tb p w s₀.heap.objs.size (s₀.heap.nsMap mainGlobals "__annotations__") N ⟨x.1, x.2, s₀.heap.life, s₀.gens, s₀.drawn, s₀.toks, s₀.os⟩ (topStub p)).bind fun sT => match staticsOk (importedModules p.main.body) s₀.heap sT.abs.heap && namesBound p sT.abs.heap && gensDone sT.abs && laidKept s₀.heap sT.abs.heap with
  | true => some sT.abs
  | false => none
 | false => none
section
variable {tb : String → Option Builtin} {p : Program} {w : World} {n₀ : Nat} {ann : Option Value}
theorem dv : ∀ (n : Nat) (s : SharedT) (t : Thread) (s' : SharedT), db tb p w n₀ ann n s t = some s' → topRun tb p w n₀ ann n s.abs t = some s'.abs
 | 0, _, _, _, h => by cases h
 | n + 1, s, t, s', h => by
  unfold db at h
  unfold topRun
  cases ht : through t with
  | true => rw [ht] at h; cases h; rfl
  | false =>
   rw [ht] at h
   cases hk : stepOk n₀ ann t with
   | false => rw [hk] at h; cases h
   | true =>
    rw [hk] at h
    cases hs : stepT (denote tb) p w s t with
    | none => rw [hs] at h; cases h
    | some x =>
     obtain ⟨s1, t1⟩ := x
     rw [hs] at h
     dsimp only at h ⊢
     rw [stepT_spec hs]
     exact dv n s1 t1 s' h
theorem ee {life : Life} : ∀ (os : List Obj) (t : BT) (n : Nat) (t' : BT) (n' : Nat), ed os t n = some (t', n') → (absHeap t' n' life).objs = (absHeap t n life).objs ++ os.toArray
 | [], t, n, t', n', h => by cases h; simp
 | o :: os, t, n, t', n', h => by
  unfold ed at h
  cases e : ((t.ins n o).get n).isSome with
  | false => rw [e] at h; cases h
  | true =>
   rw [e] at h
   rw [ee os _ _ _ _ h, absHeap_ins e]
   show (absHeap t n life).objs.push o ++ os.toArray = _
   simp
theorem j6 {N : Nat} {s : Shared} (h : nv tb p w N = some s) : openEnds tb p w N = some s := by
 unfold nv at h
 unfold openEnds
 obtain ⟨s₀, h0, h1⟩ := Option.bind_eq_some_iff.mp h
 rw [h0]
 show topFrom tb p w N s₀ = some s
 unfold topFrom
 cases hc : (s₀.heap.isNs mainGlobals && s₀.gens.size == 0) with
 | false => rw [hc] at h1; cases h1
 | true =>
  rw [hc] at h1
  dsimp only at h1 ⊢
  obtain ⟨⟨t', n'⟩, h2, h3⟩ := Option.bind_eq_some_iff.mp h1
  obtain ⟨sT, h4, h5⟩ := Option.bind_eq_some_iff.mp h3
  have e := ee (life := s₀.heap.life) _ _ _ _ _ h2
  have e2 : absHeap t' n' s₀.heap.life = s₀.heap := by
   have e3 : (absHeap t' n' s₀.heap.life).objs = s₀.heap.objs := by
    rw [e]
    show (absHeap BT.nil 0 s₀.heap.life).objs ++ s₀.heap.objs.toList.toArray = _
    simp [absHeap, BT.list]
   obtain ⟨⟨objs, life⟩, g, d, k, os⟩ := s₀
   show Heap.mk _ _ = Heap.mk _ _
   exact congrArg (Heap.mk · life) e3
  have r := dv _ _ _ _ h4
  have ea : (SharedT.abs ⟨t', n', s₀.heap.life, s₀.gens, s₀.drawn, s₀.toks, s₀.os⟩) = s₀ := by
   show Shared.mk (absHeap t' n' s₀.heap.life) _ _ _ _ = s₀
   rw [e2]
  rw [ea] at r
  rw [r]
  exact h5
theorem kG {α : Type} {N : Nat} {f : Shared → α} {a : α} (h : (nv tb p w N).map f = some a) : (openEnds tb p w N).map f = some a := by
 obtain ⟨s, h1, h2⟩ := Option.map_eq_some_iff.mp h
 rw [j6 h1]
 exact congrArg some h2
end
noncomputable def xy (tb : String → Option Builtin) (p : Program) (w : World) (n₀ : Nat) (ann : Option Value) (n : Nat) : SharedT → Thread → Option SharedT :=
 @Nat.rec (fun _ => SharedT → Thread → Option SharedT) (fun _ _ => none) (fun _ ih s t => @Bool.rec (fun _ => Option SharedT) (@Bool.rec (fun _ => Option SharedT) none (@Option.rec (SharedT × Thread) (fun _ => Option SharedT) none (fun x => ih x.1 x.2) (Fast.tw10156331382660048174 (Fast.tw11892475500146522536 tb) p w s t)) (Fast.tw6613529449190102663 n₀ ann t)) (some s) (through t)) n
theorem kH {tb : String → Option Builtin} {p : Program} {w : World} {n₀ : Nat} {ann : Option Value} : ∀ (n : Nat) (s : SharedT) (t : Thread), xy tb p w n₀ ann n s t = db tb p w n₀ ann n s t
 | 0, _, _ => rfl
 | n + 1, s, t => by
  show @Bool.rec (fun _ => Option SharedT) (@Bool.rec (fun _ => Option SharedT) none (@Option.rec (SharedT × Thread) (fun _ => Option SharedT) none (fun x => xy tb p w n₀ ann n x.1 x.2) (Fast.tw10156331382660048174 (Fast.tw11892475500146522536 tb) p w s t)) (Fast.tw6613529449190102663 n₀ ann t)) (some s) (through t) = _
  unfold db
  rw [← Fast.te10156331382660048174, ← Fast.te11892475500146522536, ← Fast.te6613529449190102663]
  cases through t with
  | true => rfl
  | false =>
   cases stepOk n₀ ann t with
   | false => rfl
   | true =>
    cases stepT (denote tb) p w s t with
    | none => rfl
    | some x => exact kH n x.1 x.2
noncomputable def openQ (tb : String → Option Builtin) (p : Program) (w : World) (N : Nat) : Option Shared := (fencedOpening tb p w N).bind fun s₀ => match s₀.heap.isNs mainGlobals && s₀.gens.size == 0 with
 | true => (ed s₀.heap.objs.toList .nil 0).bind fun x => (xy tb p w s₀.heap.objs.size (s₀.heap.nsMap mainGlobals "__annotations__") N ⟨x.1, x.2, s₀.heap.life, s₀.gens, s₀.drawn, s₀.toks, s₀.os⟩ (topStub p)).bind fun sT => match staticsOk (importedModules p.main.body) s₀.heap sT.abs.heap && namesBound p sT.abs.heap && gensDone sT.abs && laidKept s₀.heap sT.abs.heap with
  | true => some sT.abs
  | false => none
 | false => none
theorem openQ_map {tb : String → Option Builtin} {p : Program} {w : World} {α : Type} {N : Nat} {f : Shared → α} {a : α} (h : (openQ tb p w N).map f = some a) : (openEnds tb p w N).map f = some a := by
 refine kG ?_
 unfold openQ at h
 unfold nv
 simp only [kH] at h
 exact h
end TR
namespace G
open PySem PySem.W PyProof.Rows
noncomputable def hT (i : Nat) : Stmt := PySem.Challenge.pw_notejar_k31_read_given.main.body.getD i (.Pass ⟨0, 0, 0, 0⟩)
noncomputable def hA (s : Stmt) : Arguments := match s with
 | .FunctionDef _ a _ _ _ _ _ _ _ _ => a
 | _ => { posonlyargs := [], args := [], vararg := none, kwonlyargs := [], kw_defaults := [], kwarg := none, defaults := [] }
noncomputable def hB (s : Stmt) : List Stmt := match s with
 | .FunctionDef _ _ b _ _ _ _ _ _ _ => b
 | _ => []
noncomputable def hS (s : Stmt) : Scope := match s with
 | .FunctionDef _ _ _ _ _ _ sc _ _ _ => sc
 | _ => { kind := .function, names := [], isGenerator := false, isCoroutine := false }
noncomputable abbrev kS (s : String) (t : Nat) : Value := .str (Str.ofString s) t
noncomputable abbrev kR (a : Nat) : Value := .ref a
noncomputable abbrev kI (i : Int) (t : Nat) : Value := .int i t
noncomputable abbrev kE (P : Params) (s : String) (t : Nat) (v : Value) : DictEntry := ⟨PySem.PyData.keyHash P (Str.ofString s), .str (Str.ofString s) t, v⟩
noncomputable def kF (x : String) (i : Nat) (m : String) (t c : Nat) : Obj := Obj.mk (Value.type "function") Option.none (Data.func (fnOf (Str.ofString x) (Str.ofString x) (hA (hT i)) (hB (hT i)) (hS (hT i)) .none Value.none Value.none (kS m t) Option.none (kR c) Value.none)) #[]
noncomputable def kC (x : String) (a b c : Nat) (d e f : Int) (g : Nat) (h : Int) (i j : Nat) (k l : Int) (m : Nat) : Obj := Obj.mk (Value.type "code") Option.none (Data.fields #[kS x a, kS x b, kS "/claim/cut.py" c, kI d 0, kI e 0, kI 0 0, kI 0 0, kI f 0, kR g, Value.bool Bool.true, kI h 0, kR i, Value.none, Value.none, Value.none, kR j, kI k 0, kI l 0, kS "/claim/cut.py" m]) #[]
noncomputable def kD (x : String) (a b c : Nat) (d e f : Int) (g : Nat) (h : Int) (i u v j : Nat) (k l : Int) (m : Nat) : Obj := Obj.mk (Value.type "code") Option.none (Data.fields #[kS x a, kS x b, kS "/claim/cut.py" c, kI d 0, kI e 0, kI 0 0, kI 0 0, kI f 0, kR g, Value.bool Bool.true, kI h 0, kR i, Value.none, kR u, kR v, kR j, kI k 0, kI l 0, kS "/claim/cut.py" m]) #[]
noncomputable def KKa (P : Params) : Frag := [(2, Obj.mk Value.none Option.none (Data.dict #[]) #[]),
 (3, Obj.mk (Value.type "dict") Option.none (Data.dict #[kE P "__name__" 165 (kS "law_notejar_k31_read_given" 430), kE P "__doc__" 166 Value.none, kE P "__package__" 167 Value.none, kE P "__loader__" 168 (Value.builtin "__main__.__loader__#opaque"), kE P "__spec__" 169 Value.none, kE P "__annotations__" 170 (kR 6), kE P "__builtins__" 171 (kR 4), kE P "__file__" 173 (kS "/claim/cut.py" 172), kE P "__cached__" 174 Value.none, kE P "JarError" 206 (kR 24), kE P "NoName" 222 (kR 37), kE P "NoTable" 238 (kR 49), kE P "NoPath" 254 (kR 61), kE P "NoAsk" 270 (kR 73), kE P "NoNote" 286 (kR 85), kE P "NoJar" 302 (kR 97), kE P "NoNumber" 318 (kR 109), kE P "is_text_of" 326 (kR 116), kE P "FIGURES" 330 (kS "0123456789" 329), kE P "LABEL_SIGNS" 332 (kS "abcdefghijklmnopqrstuvwxyz0123456789-" 331), kE P "LONGEST_LABEL" 334 (kI 8 333), kE P "MOST_LABELS" 336 (kI 5 335), kE P "is_label" 343 (kR 123), kE P "is_name" 349 (kR 128), kE P "PATH_SIGNS" 353 (kS "abcdefghijklmnopqrstuvwxyz0123456789-_./" 352), kE P "LONGEST_PATH" 355 (kI 20 354), kE P "is_path" 362 (kR 135), kE P "NOTE_NAME_SIGNS" 366 (kS "abcdefghijklmnopqrstuvwxyzABCDEFGHIJKLMNOPQRSTUVWXYZ0123456789-_" 365), kE P "LONGEST_NOTE_NAME" 368 (kI 10 367), kE P "NO_WORTH_SIGNS" 370 (kS ";,=" 369), kE P "LONGEST_WORTH" 372 (kI 12 371), kE P "MOST_FIGURES" 374 (kI 4 373), kE P "GIVEN_HOUSE" 376 (kI 2 375), kE P "GIVEN_PATH" 378 (kI 3 377), kE P "GIVEN_UNTIL" 380 (kI 4 379), kE P "GIVEN_LASTS" 382 (kI 5 381), kE P "GIVEN_SAFE" 384 (kI 6 383), kE P "GIVEN_REACH" 386 (kI 7 385), kE P "is_note_name" 393 (kR 142), kE P "is_worth" 399 (kR 147), kE P "is_reach" 406 (kR 154), kE P "is_written_moment" 413 (kR 161), kE P "what_is_told" 423 (kR 168), kE P "read_given" 429 (kR 173), kE P "_law_cell" 439 (kR 180), kE P "_law_drawn" 449 (kR 187), kE P "_law_name" 458 (kR 194), kE P "_law_table" 464 (kR 199), kE P "_law_path" 473 (kR 206), kE P "_law_ask" 482 (kR 213), kE P "_law_refused" 490 (kR 220), kE P "_law_told" 498 (kR 227), kE P "_law_moment" 504 (kR 232), kE P "_law_part" 514 (kR 239), kE P "_law_due" 520 (kR 244), kE P "law" 526 (kR 249)] 56) #[]),
 (23, Obj.mk (Value.type "dict") Option.none (Data.dict #[kE P "__module__" 196 (kS "notejar.errors" 187), kE P "__firstlineno__" 200 (kI 2 199), kE P "__static_attributes__" 201 (kR 22), kE P "__weakref__" 203 (kR 25), kE P "__doc__" 204 Value.none] 3) #[]),
 (24, Obj.mk (Value.type "type") Option.none (Data.cls (PySem.ClassData.mk (Str.ofString "JarError") [Value.type "ValueError"] [kR 24, Value.type "ValueError", Value.type "Exception", Value.type "BaseException", Value.type "object"] 23 (Str.ofString "JarError") Bool.true [] [kR 37, kR 49, kR 61, kR 73, kR 85, kR 97, kR 109] Bool.false Option.none Bool.false)) #[Option.some (kR 15), Option.none, Option.some (kS "JarError" 189), Option.some (kS "JarError" 197), Option.some (Value.builtin "ValueError.__new__"), Option.some (Value.bool Bool.true)]),
 (36, Obj.mk (Value.type "dict") Option.none (Data.dict #[kE P "__module__" 214 (kS "notejar.errors" 187), kE P "__firstlineno__" 218 (kI 4 217), kE P "__static_attributes__" 219 (kR 35), kE P "__doc__" 220 Value.none] 2) #[]),
 (37, Obj.mk (Value.type "type") Option.none (Data.cls (PySem.ClassData.mk (Str.ofString "NoName") [kR 24] [kR 37, kR 24, Value.type "ValueError", Value.type "Exception", Value.type "BaseException", Value.type "object"] 36 (Str.ofString "NoName") Bool.true [] [] Bool.false Option.none Bool.false)) #[Option.some (kR 28), Option.none, Option.some (kS "NoName" 207), Option.some (kS "NoName" 215), Option.some (Value.builtin "ValueError.__new__"), Option.some (Value.bool Bool.true)]),
 (48, Obj.mk (Value.type "dict") Option.none (Data.dict #[kE P "__module__" 230 (kS "notejar.errors" 187), kE P "__firstlineno__" 234 (kI 6 233), kE P "__static_attributes__" 235 (kR 47), kE P "__doc__" 236 Value.none] 2) #[]),
 (49, Obj.mk (Value.type "type") Option.none (Data.cls (PySem.ClassData.mk (Str.ofString "NoTable") [kR 24] [kR 49, kR 24, Value.type "ValueError", Value.type "Exception", Value.type "BaseException", Value.type "object"] 48 (Str.ofString "NoTable") Bool.true [] [] Bool.false Option.none Bool.false)) #[Option.some (kR 40), Option.none, Option.some (kS "NoTable" 223), Option.some (kS "NoTable" 231), Option.some (Value.builtin "ValueError.__new__"), Option.some (Value.bool Bool.true)]),
 (60, Obj.mk (Value.type "dict") Option.none (Data.dict #[kE P "__module__" 246 (kS "notejar.errors" 187), kE P "__firstlineno__" 250 (kI 8 249), kE P "__static_attributes__" 251 (kR 59), kE P "__doc__" 252 Value.none] 2) #[]),
 (61, Obj.mk (Value.type "type") Option.none (Data.cls (PySem.ClassData.mk (Str.ofString "NoPath") [kR 24] [kR 61, kR 24, Value.type "ValueError", Value.type "Exception", Value.type "BaseException", Value.type "object"] 60 (Str.ofString "NoPath") Bool.true [] [] Bool.false Option.none Bool.false)) #[Option.some (kR 52), Option.none, Option.some (kS "NoPath" 239), Option.some (kS "NoPath" 247), Option.some (Value.builtin "ValueError.__new__"), Option.some (Value.bool Bool.true)]),
 (72, Obj.mk (Value.type "dict") Option.none (Data.dict #[kE P "__module__" 262 (kS "notejar.errors" 187), kE P "__firstlineno__" 266 (kI 10 265), kE P "__static_attributes__" 267 (kR 71), kE P "__doc__" 268 Value.none] 2) #[]),
 (73, Obj.mk (Value.type "type") Option.none (Data.cls (PySem.ClassData.mk (Str.ofString "NoAsk") [kR 24] [kR 73, kR 24, Value.type "ValueError", Value.type "Exception", Value.type "BaseException", Value.type "object"] 72 (Str.ofString "NoAsk") Bool.true [] [] Bool.false Option.none Bool.false)) #[Option.some (kR 64), Option.none, Option.some (kS "NoAsk" 255), Option.some (kS "NoAsk" 263), Option.some (Value.builtin "ValueError.__new__"), Option.some (Value.bool Bool.true)]),
 (84, Obj.mk (Value.type "dict") Option.none (Data.dict #[kE P "__module__" 278 (kS "notejar.errors" 187), kE P "__firstlineno__" 282 (kI 12 281), kE P "__static_attributes__" 283 (kR 83), kE P "__doc__" 284 Value.none] 2) #[]),
 (85, Obj.mk (Value.type "type") Option.none (Data.cls (PySem.ClassData.mk (Str.ofString "NoNote") [kR 24] [kR 85, kR 24, Value.type "ValueError", Value.type "Exception", Value.type "BaseException", Value.type "object"] 84 (Str.ofString "NoNote") Bool.true [] [] Bool.false Option.none Bool.false)) #[Option.some (kR 76), Option.none, Option.some (kS "NoNote" 271), Option.some (kS "NoNote" 279), Option.some (Value.builtin "ValueError.__new__"), Option.some (Value.bool Bool.true)]),
 (96, Obj.mk (Value.type "dict") Option.none (Data.dict #[kE P "__module__" 294 (kS "notejar.errors" 187), kE P "__firstlineno__" 298 (kI 14 297), kE P "__static_attributes__" 299 (kR 95), kE P "__doc__" 300 Value.none] 2) #[]),
 (97, Obj.mk (Value.type "type") Option.none (Data.cls (PySem.ClassData.mk (Str.ofString "NoJar") [kR 24] [kR 97, kR 24, Value.type "ValueError", Value.type "Exception", Value.type "BaseException", Value.type "object"] 96 (Str.ofString "NoJar") Bool.true [] [] Bool.false Option.none Bool.false)) #[Option.some (kR 88), Option.none, Option.some (kS "NoJar" 287), Option.some (kS "NoJar" 295), Option.some (Value.builtin "ValueError.__new__"), Option.some (Value.bool Bool.true)]),
 (108, Obj.mk (Value.type "dict") Option.none (Data.dict #[kE P "__module__" 310 (kS "notejar.errors" 187), kE P "__firstlineno__" 314 (kI 16 313), kE P "__static_attributes__" 315 (kR 107), kE P "__doc__" 316 Value.none] 2) #[]),
 (109, Obj.mk (Value.type "type") Option.none (Data.cls (PySem.ClassData.mk (Str.ofString "NoNumber") [kR 24] [kR 109, kR 24, Value.type "ValueError", Value.type "Exception", Value.type "BaseException", Value.type "object"] 108 (Str.ofString "NoNumber") Bool.true [] [] Bool.false Option.none Bool.false)) #[Option.some (kR 100), Option.none, Option.some (kS "NoNumber" 303), Option.some (kS "NoNumber" 311), Option.some (Value.builtin "ValueError.__new__"), Option.some (Value.bool Bool.true)]),
 (115, kC "is_text_of" 321 322 323 19 4 3 112 181 113 114 324 19 325),
 (116, kF "is_text_of" 10 "notejar.kinds" 319 115),
 (122, kD "is_label" 337 338 339 30 1 3 117 181 118 119 120 121 341 30 342),
 (123, kF "is_label" 16 "notejar.names" 327 122),
 (127, kC "is_name" 344 345 346 34 1 3 124 181 125 126 347 34 348),
 (128, kF "is_name" 17 "notejar.names" 327 127),
 (134, kD "is_path" 356 357 358 44 1 3 129 181 130 131 132 133 360 44 361),
 (135, kF "is_path" 21 "notejar.paths" 350 134),
 (141, kD "is_note_name" 387 388 389 58 1 3 136 181 137 138 139 140 391 58 392)]
noncomputable def KKb (P : Params) : Frag := [(142, kF "is_note_name" 34 "notejar.giving" 363 141),
 (146, kC "is_worth" 394 395 396 60 1 3 143 181 144 145 397 60 398),
 (147, kF "is_worth" 35 "notejar.giving" 363 146),
 (153, kD "is_reach" 400 401 402 64 1 3 148 181 149 150 151 152 404 64 405),
 (154, kF "is_reach" 36 "notejar.giving" 363 153),
 (160, kD "is_written_moment" 407 408 409 66 1 3 155 181 156 157 158 159 411 66 412),
 (161, kF "is_written_moment" 37 "notejar.giving" 363 160),
 (167, kD "what_is_told" 414 415 416 68 1 3 162 181 163 164 165 166 421 68 422),
 (168, kF "what_is_told" 38 "notejar.giving" 363 167),
 (172, kC "read_given" 424 425 426 85 1 3 169 181 170 171 427 85 428),
 (173, kF "read_given" 39 "notejar.giving" 363 172),
 (179, kD "_law_cell" 432 433 434 99 2 3 174 181 175 176 177 178 437 99 438),
 (180, kF "_law_cell" 41 "law_notejar_k31_read_given" 430 179),
 (186, kD "_law_drawn" 440 441 442 103 3 3 181 181 182 183 184 185 447 103 448),
 (187, kF "_law_drawn" 42 "law_notejar_k31_read_given" 430 186),
 (219, kD "_law_refused" 483 484 485 120 1 3 214 181 215 216 217 218 488 120 489),
 (220, kF "_law_refused" 47 "law_notejar_k31_read_given" 430 219),
 (226, kD "_law_told" 491 492 493 127 1 3 221 181 222 223 224 225 496 127 497),
 (227, kF "_law_told" 48 "law_notejar_k31_read_given" 430 226),
 (231, kC "_law_moment" 499 500 501 132 1 3 228 181 229 230 502 132 503),
 (232, kF "_law_moment" 49 "law_notejar_k31_read_given" 430 231),
 (238, kD "_law_part" 505 506 507 136 2 3 233 181 234 235 236 237 512 136 513),
 (239, kF "_law_part" 50 "law_notejar_k31_read_given" 430 238),
 (243, kC "_law_due" 515 516 517 148 1 3 240 181 241 242 518 148 519),
 (244, kF "_law_due" 51 "law_notejar_k31_read_given" 430 243),
 (248, kC "law" 521 522 523 162 1 3 245 181 246 247 524 162 525),
 (249, kF "law" 52 "law_notejar_k31_read_given" 430 248)]
noncomputable def KK (P : Params) : Frag := KKa P ++ KKb P
noncomputable def KAa : List Addr := [2, 3, 23, 24, 36, 37, 48, 49, 60, 61, 72, 73, 84, 85, 96, 97, 108, 109, 115, 116, 122, 123, 127, 128, 134, 135, 141]
noncomputable def KAb : List Addr := [142, 146, 147, 153, 154, 160, 161, 167, 168, 172, 173, 179, 180, 186, 187, 219, 220, 226, 227, 231, 232, 238, 239, 243, 244, 248, 249]
noncomputable def KA : List Addr := KAa ++ KAb
theorem KA_ok (P : Params) : KA = (KK P).map (·.1) := by kernel_rfl
noncomputable def VQ : Program := view PySem.Challenge.pw_notejar_k31_read_given [52]
theorem hbr : PySem.Challenge.rw_notejar_k31_read_given.row.prog.bare := ⟨rfl, rfl, rfl, rfl, rfl, by decide +kernel⟩
theorem slo : PySem.W.looksOpen PySem.Challenge.rw_notejar_k31_read_given.row.prog = true := by kernel_rfl
set_option maxRecDepth 100000 in
theorem sd1 : PySem.Challenge.rw_notejar_k31_read_given.row.wellSaid = true := by
 unfold PySem.W.OpenRow.wellSaid PySem.W.OpenRow.partSaid
 rw [slo]
 kernel_rfl
set_option maxRecDepth 100000 in
theorem sd : PySem.Challenge.rw_notejar_k31_read_given.wellSaid = true := by
 unfold PySem.W.OpenLaw.wellSaid
 rw [sd1]
 kernel_rfl
theorem hld (h : PySem.Challenge.rw_notejar_k31_read_given.row.wellSaid = true → PySem.Challenge.rw_notejar_k31_read_given.row.Holds) : PySem.Challenge.rw_notejar_k31_read_given.Holds := PySem.W.holds_law sd h
noncomputable def VL : List Str := [Str.ofString "JarError", Str.ofString "NoName", Str.ofString "NoTable", Str.ofString "NoPath", Str.ofString "NoAsk", Str.ofString "NoNote", Str.ofString "NoJar", Str.ofString "NoNumber", Str.ofString "is_text_of", Str.ofString "FIGURES", Str.ofString "LABEL_SIGNS", Str.ofString "LONGEST_LABEL", Str.ofString "MOST_LABELS", Str.ofString "is_label", Str.ofString "is_name", Str.ofString "PATH_SIGNS", Str.ofString "LONGEST_PATH", Str.ofString "is_path", Str.ofString "NOTE_NAME_SIGNS", Str.ofString "LONGEST_NOTE_NAME", Str.ofString "NO_WORTH_SIGNS", Str.ofString "LONGEST_WORTH", Str.ofString "MOST_FIGURES", Str.ofString "GIVEN_HOUSE", Str.ofString "GIVEN_PATH", Str.ofString "GIVEN_UNTIL", Str.ofString "GIVEN_LASTS", Str.ofString "GIVEN_SAFE", Str.ofString "GIVEN_REACH", Str.ofString "is_note_name", Str.ofString "is_worth", Str.ofString "is_reach", Str.ofString "is_written_moment", Str.ofString "what_is_told", Str.ofString "read_given", Str.ofString "_law_cell", Str.ofString "_law_drawn", Str.ofString "_law_name", Str.ofString "_law_table", Str.ofString "_law_path", Str.ofString "_law_ask", Str.ofString "_law_refused", Str.ofString "_law_told", Str.ofString "_law_moment", Str.ofString "_law_part", Str.ofString "_law_due"]
theorem zA {α β γ : Type} {o : Option α} {f : α → β} {g : α → γ} {a : β} {b : γ} (h1 : o.map f = some a) (h2 : o.map g = some b) : o.map (fun s => (f s, g s)) = some (a, b) := by
 cases o with
 | none => cases h1
 | some x => cases h1; cases h2; rfl
set_option maxRecDepth 100000 in
theorem xz (w : World) : (TR.openQ treeTable PySem.Challenge.pw_notejar_k31_read_given w 5158).map (openSeen VQ VL (importedModules PySem.Challenge.pw_notejar_k31_read_given.main.body) (fun s => recOk [] s) true) = some (openGood VQ VL) := by kernel_rfl
set_option maxRecDepth 100000 in
theorem tf (w : World) : (TR.openQ treeTable PySem.Challenge.pw_notejar_k31_read_given w 5158).map (fun s => KAa.map s.heap.get?) = some ((KKa w.params).map fun p => some p.2) := by kernel_rfl
set_option maxRecDepth 100000 in
theorem tj (w : World) : (TR.openQ treeTable PySem.Challenge.pw_notejar_k31_read_given w 5158).map (fun s => KAb.map s.heap.get?) = some ((KKb w.params).map fun p => some p.2) := by kernel_rfl
theorem ny {α β γ : Type} {o : Option α} {f : α → β → γ} {A B : List β} {X Y : List γ} (h1 : o.map (fun s => A.map (f s)) = some X) (h2 : o.map (fun s => B.map (f s)) = some Y) : o.map (fun s => (A ++ B).map (f s)) = some (X ++ Y) := by
 cases o with
 | none => cases h1
 | some x => cases h1; cases h2; simp
theorem xA (w : World) : (TR.openQ treeTable PySem.Challenge.pw_notejar_k31_read_given w 5158).map (fun s => KA.map s.heap.get?) = some ((KK w.params).map fun p => some p.2) := by
 show (TR.openQ treeTable PySem.Challenge.pw_notejar_k31_read_given w 5158).map (fun s => (KAa ++ KAb).map s.heap.get?) = some ((KKa w.params ++ KKb w.params).map fun p => some p.2)
 rw [List.map_append]
 exact ny (f := fun s : Shared => s.heap.get?) (tf w) (tj w)
theorem left : LeftO PySem.Challenge.pw_notejar_k31_read_given VQ VL (fun s => recOk [] s) (Hook.obs (kHook KK KA KA_ok)) (Hook.val (kHook KK KA KA_ok)) 5158 := fun w => TR.openQ_map (zA (xz w) (xA w))
end G
set_option Elab.async false
set_option linter.all false
set_option maxRecDepth 100000
namespace L2
open PySem PySem.Spec PyProof.Rows
abbrev Key := Sum Int Str
def j7 : Key → Value → Bool
 | .inl k, v => Value.isInt k v
 | .inr x, v => Value.isStrOf x v
def zB (w : World) : Key → Int
 | .inl k => hashInt k
 | .inr x => hashStr w x
theorem aH : ∀ {k : Key} {v : Value}, j7 k v = true → (∃ i t, k = Sum.inl i ∧ v = Value.int i t) ∨ (∃ x t, k = Sum.inr x ∧ v = Value.str x t)
 | .inl i, v, h => by
  obtain ⟨t, e⟩ := Value.isInt_shape (k := i) (v := v) h
  exact .inl ⟨i, t, rfl, e⟩
 | .inr x, v, h => by
  obtain ⟨t, e⟩ := Value.isStrOf_shape (x := x) (v := v) h
  exact .inr ⟨x, t, rfl, e⟩
theorem kJ (i : Int) (t : Tok) : j7 (.inl i) (.int i t) = true := by simp [j7, Value.isInt]
theorem kK (x : Str) (t : Tok) : j7 (.inr x) (.str x t) = true := by simp [j7, Value.isStrOf]
theorem tq (a b : Int) : decide ((Sum.inl a : Key) = Sum.inl b) = (a == b) := by
 by_cases e : a = b
 · subst e; simp
 · have h : ¬ (Sum.inl a : Key) = Sum.inl b := fun q => e (Sum.inl.inj q)
   rw [decide_eq_false h]
   exact (beq_eq_false_iff_ne.mpr e).symm
theorem tt (a b : Str) : decide ((Sum.inr a : Key) = Sum.inr b) = decide (a = b) := by
 by_cases e : a = b
 · subst e; simp
 · have h : ¬ (Sum.inr a : Key) = Sum.inr b := fun q => e (Sum.inr.inj q)
   rw [decide_eq_false h, decide_eq_false e]
theorem tu (a : Int) (b : Str) : decide ((Sum.inl a : Key) = Sum.inr b) = false := decide_eq_false (fun q => nomatch q)
theorem tw (a : Str) (b : Int) : decide ((Sum.inr a : Key) = Sum.inl b) = false := decide_eq_false (fun q => nomatch q)
def aM (prog : Program) (w : World) : PySem.KeyKind prog w Key where
 is := j7
 hash := zB w
 inj := fun v a b ha hb => by
  rcases aH ha with ⟨i, t, rfl, rfl⟩ | ⟨x, t, rfl, rfl⟩
  · rcases aH hb with ⟨j, u, rfl, e⟩ | ⟨y, u, rfl, e⟩
    · injection e with e1 _; rw [e1]
    · exact nomatch e
  · rcases aH hb with ⟨j, u, rfl, e⟩ | ⟨y, u, rfl, e⟩
    · exact nomatch e
    · injection e with e1 _; rw [e1]
 byValue := fun k v h => by
  rcases aH h with ⟨i, t, rfl, rfl⟩ | ⟨x, t, rfl, rfl⟩ <;> rfl
 pyHash := fun hv h => by
  rcases aH hv with ⟨i, t, rfl, rfl⟩ | ⟨x, t, rfl, rfl⟩
  · exact wpAny_pyHash_int h
  · exact wpAny_pyHash_str h
 eqBool := fun hu hv h => by
  rcases aH hu with ⟨i, t, rfl, rfl⟩ | ⟨x, t, rfl, rfl⟩
  · rcases aH hv with ⟨j, u, rfl, rfl⟩ | ⟨y, u, rfl, rfl⟩
    · rw [tq] at h; exact wpAny_eqBool_int h
    · rw [tu] at h; exact SeqAt.EqAt.int_str i t y u _ _ _ _ h
  · rcases aH hv with ⟨j, u, rfl, rfl⟩ | ⟨y, u, rfl, rfl⟩
    · rw [tw] at h; exact SeqAt.EqAt.str_int x t j u _ _ _ _ h
    · rw [tt] at h; exact wpAny_eqBool_str h
 «strs» := fun k x t v h => by
  rcases aH h with ⟨i, u, rfl, e⟩ | ⟨y, u, rfl, e⟩
  · exact nomatch e
  · injection e with e1 _
    subst e1
    cases v <;> rfl
theorem io (prog : Program) (w : World) (i : Int) (t : Tok) : (aM prog w).is (.inl i) (.int i t) = true := kJ i t
theorem ip (prog : Program) (w : World) (x : Str) (t : Tok) : (aM prog w).is (.inr x) (.str x t) = true := kK x t
inductive V where
 | non | bl (b : Bool) | int (i : Int) | str (x : Str) | byt (b : Array UInt8) | flt (b : UInt64) | ref (a : Addr) | ty (n : String)
 deriving DecidableEq
def RelV : V → Value → Prop
 | .non, u => u = Value.none
 | .bl b, u => u = Value.bool b
 | .int i, u => ∃ t, u = Value.int i t
 | .str x, u => ∃ t, u = Value.str x t
 | .byt b, u => ∃ t, u = Value.bytes b t
 | .flt b, u => ∃ t, u = Value.float b t
 | .ref a, u => u = Value.ref a
 | .ty n, u => u = Value.type n
abbrev Vals : List V → List Value → Prop := Paired RelV
theorem Vals.length {xs : List V} {us : List Value} (r : Vals xs us) : xs.length = us.length := Paired.length r
theorem Vals.get : ∀ {xs : List V} {us : List Value} {i : Nat} {x : V}, Vals xs us → xs[i]? = some x → ∃ u, us[i]? = some u ∧ RelV x u
 | _, _, _, _, .nil, e => by simp at e
 | _, _, 0, _, .cons r _, e => by simp at e; subst e; exact ⟨_, rfl, r⟩
 | _, _, i + 1, x, .cons _ t, e => by
  obtain ⟨u, h1, h2⟩ := Vals.get (i := i) (x := x) t (by simpa using e)
  exact ⟨u, by simpa using h1, h2⟩
theorem Vals.set {x : V} {u : Value} (r : RelV x u) : ∀ {xs : List V} {us : List Value} (i : Nat), Vals xs us → Vals (xs.set i x) (us.set i u)
 | _, _, _, .nil => .nil
 | _, _, 0, .cons _ t => .cons r t
 | _, _, i + 1, .cons q t => .cons q (Vals.set r i t)
theorem Vals.append : ∀ {xs ys : List V} {us ws : List Value}, Vals xs us → Vals ys ws → Vals (xs ++ ys) (us ++ ws)
 | _, _, _, _, .nil, s => s
 | _, _, _, _, .cons r t, s => .cons r (Vals.append t s)
theorem Vals.take : ∀ {xs : List V} {us : List Value} (n : Nat), Vals xs us → Vals (xs.take n) (us.take n)
 | _, _, 0, _ => .nil
 | _, _, _ + 1, .nil => .nil
 | _, _, n + 1, .cons r t => .cons r (Vals.take n t)
theorem Vals.drop : ∀ {xs : List V} {us : List Value} (n : Nat), Vals xs us → Vals (xs.drop n) (us.drop n)
 | _, _, 0, r => r
 | _, _, _ + 1, .nil => .nil
 | _, _, n + 1, .cons _ t => Vals.drop n t
theorem Vals.none_of : ∀ {xs : List V} {us : List Value} {i : Nat}, Vals xs us → xs[i]? = none → us[i]? = none := fun {xs us i} r e => by
 have h1 := r.length
 have h2 : xs.length ≤ i := List.getElem?_eq_none_iff.mp e
 exact List.getElem?_eq_none_iff.mpr (by omega)
def RelO : Option V → Option Value → Prop
 | some v, some u => RelV v u
 | none, none => True
 | _, _ => False
def KV {κ : Type} : List (κ × V) → List (κ × Value) → Prop := Paired fun (p : κ × V) (q : κ × Value) => p.1 = q.1 ∧ RelV p.2 q.2
def kV : Key → V
 | .inl i => .int i
 | .inr x => .str x
inductive HO where
 | lst (xs : List V)
 | tup (xs : List V)
 | dK (kvs : List (Key × V)) | dT (kvs : List (List Key × V))
 | set (S : Int → Bool) (n : Nat)
 | ins (C dx : Addr) (fs : List (Str × V))
 | own (x : Addr)
 | xd (fs : List (Str × V))
 | met (f x : Addr)
 | rng (lo hi : Int)
 | frz (o : Obj) (u : HO)
 | tbl (ps : Array Value)
 | ext (φ : Heap → Prop)
abbrev Hp := Addr → Option HO
def upd (H : Hp) (a : Addr) (o : HO) : Hp := fun b => if b = a then some o else H b
theorem am {H : Hp} {a : Addr} {o : HO} : upd H a o a = some o := by unfold upd; rw [if_pos rfl]
theorem ak {H : Hp} {a b : Addr} {o : HO} (h : b ≠ a) : upd H a o b = H b := by unfold upd; rw [if_neg h]
theorem qv {H : Hp} {a : Addr} {o u : HO} : upd (upd H a o) a u = upd H a u := by
 funext b; unfold upd; split <;> rfl
theorem xB {H : Hp} {a b : Addr} {o u : HO} (h : H a = some o) (h' : H b = some u) (d : o ≠ u) : a ≠ b := by
 intro e; subst e; rw [h] at h'; exact d (Option.some.inj h')
theorem aj {H : Hp} {a b : Addr} {o : HO} (h : H a = some o) (h' : H b = none) : a ≠ b := by
 intro e; subst e; rw [h] at h'; cases h'
section
variable (P : Program) (w : World)
def ObjOk (H : Hp) (h : Heap) (a : Addr) : HO → Prop
 | .lst xs => xs.length ≤ sizeLine ∧ ∃ (its : List Value) (n : Nat), Vals xs its ∧ h.get? a = some { cls := .type "list", data := .seq its.toArray n }
 | .tup xs => xs.length ≤ sizeLine ∧ ∃ its : List Value, Vals xs its ∧ IsTup h a its.toArray
 | .dK kvs => kvs.length ≤ sizeLine ∧ (a == sysModules) = false ∧ ∃ vs, KV kvs vs ∧ h.DictOf (aM P w) a vs
 | .dT kvs => kvs.length ≤ sizeLine ∧ (a == sysModules) = false ∧ ∃ xs : List (List Key × Addr × Value),
  Paired (fun (p : List Key × V) (q : List Key × Addr × Value) => p.1 = q.1 ∧ H q.2.1 = some (.tup (p.1.map kV)) ∧ RelV p.2 q.2.2) kvs xs ∧
  ∃ o es ep, h.get? a = some o ∧ o.ExactDict ∧ o.data = .dict es ep ∧ es.toList = xs.map (entryOfKey (tupleKind (aM P w))) ∧ (xs.map (·.1)).Nodup
 | .set S n => h.SetOf (intKind P w) a S n
 | .ins C dx fs => H dx = some (.own a) ∧ fs.length ≤ 1000 ∧ dx ≠ a ∧ h.get? a = some (PySem.W.instObj C dx) ∧
  ∃ mA, h.Ns1 dx mA ∧ (∀ f, RelO (fs.lookup f) (mA f)) ∧ PySem.Within mA (fs.map (·.1))
 | .own _ => ∃ o, h.get? a = some o
 | .xd fs => ∃ mA, h.Ns1 a mA ∧ ∀ f, RelO (fs.lookup f) (mA f)
 | .rng lo hi => ∃ t u v, h.get? a = some { cls := .type "range", data := .fields #[.int lo t, .int hi u, .int 1 v] }
 | .frz o u => h.get? a = some o ∧ ObjOk H h a u
 | .tbl ps => ∃ qs : Array Value, h.get? a = some { cls := .none, data := .fields qs } ∧ TriplesOk qs.toList ∧ ∀ pos v, codeAmong pos qs.toList = some v → ∃ c oc vs q t t', v = .ref c ∧ H c = some (.frz oc (.ext fun _ => True)) ∧ oc.data = .fields vs ∧ vs[1]? = some (.str q t) ∧ ps[0]? = some (.str q t')
 | .met f x => h.get? a = some (PySem.W.methodObj (.ref f) (.ref x))
 | .ext φ => φ h ∧ (∃ o, h.get? a = some o) ∧ ∀ h1 h2 : Heap, φ h1 → (∀ o, h1.get? a = some o → h2.get? a = some o) → φ h2
def HOk (H : Hp) (h : Heap) : Prop := ∀ a o, H a = some o → ObjOk P w H h a o
end
section
variable {P : Program} {w : World} {H H' : Hp} {h h' : Heap} {a : Addr} {o : HO}
theorem ObjOk.lt (x : ObjOk P w H h a o) : a < h.objs.size := by
 cases o with
 | lst xs => obtain ⟨_, _, _, _, e⟩ := x; exact Heap.lt_size e
 | tup xs => obtain ⟨_, _, _, p⟩ := x; exact p.lt
 | dK kvs => obtain ⟨_, _, _, _, o, _, _, e, _⟩ := x; exact Heap.lt_size e
 | dT kvs => obtain ⟨_, _, _, _, o, _, _, e, _⟩ := x; exact Heap.lt_size e
 | set S n => obtain ⟨o, _, _, _, e, _⟩ := x; exact Heap.lt_size e
 | ins C dx fs => obtain ⟨_, _, _, e, _⟩ := x; exact Heap.lt_size e
 | own y => obtain ⟨_, e⟩ := x; exact Heap.lt_size e
 | xd fs => obtain ⟨_, ⟨_, _, _, e, _⟩, _⟩ := x; exact Heap.lt_size e
 | rng lo hi => obtain ⟨_, _, _, e⟩ := x; exact Heap.lt_size e
 | frz ob u => obtain ⟨e, _⟩ := x; exact Heap.lt_size e
 | tbl ps => obtain ⟨_, e, _⟩ := x; exact Heap.lt_size e
 | met f y => exact Heap.lt_size (show h.get? a = some _ from x)
 | ext φ => obtain ⟨_, ⟨_, e⟩, _⟩ := x; exact Heap.lt_size e
theorem Paired.mapP {α β : Type} {F G : α → β → Prop} : ∀ {l₁ : List α} {l₂ : List β}, Paired F l₁ l₂ → (∀ a b, F a b → G a b) → Paired G l₁ l₂
 | _, _, .nil, _ => .nil
 | _, _, .cons r t, f => .cons (f _ _ r) (Paired.mapP t f)
theorem ObjOk.stay (x : ObjOk P w H h a o) (k : ∀ b u, (b = a ∨ H b = some (.own a)) → h.get? b = some u → h'.get? b = some u)
 (ho : ∀ b, H b = some (.own a) → H' b = some (.own a)) (ht : ∀ b xs, H b = some (.tup xs) → H' b = some (.tup xs))
 (hf : ∀ b o u, H b = some (.frz o u) → H' b = some (.frz o u) := by first | exact fun _ _ _ q => q | (intro c _ _ q; rw [ak (aj q (by assumption))]; exact q)) : ObjOk P w H' h' a o := by
 induction o with
 | lst xs => obtain ⟨z, its, n, r, e⟩ := x; exact ⟨z, its, n, r, k _ _ (.inl rfl) e⟩
 | tup xs => obtain ⟨z, its, r, ob, e, c⟩ := x; exact ⟨z, its, r, ob, k _ _ (.inl rfl) e, c⟩
 | dK kvs => obtain ⟨z, y, vs, r, ob, es, ep, e, c⟩ := x; exact ⟨z, y, vs, r, ob, es, ep, k _ _ (.inl rfl) e, c⟩
 | dT kvs =>
  obtain ⟨z, y, xs, r, ob, es, ep, e, c⟩ := x
  exact ⟨z, y, xs, Paired.mapP r fun p q z => ⟨z.1, ht _ _ z.2.1, z.2.2⟩, ob, es, ep, k _ _ (.inl rfl) e, c⟩
 | set S n => obtain ⟨ob, es, ep, t, e, c⟩ := x; exact ⟨ob, es, ep, t, k _ _ (.inl rfl) e, c⟩
 | ins C dx fs =>
  obtain ⟨d, z, ne, e, mA, ⟨od, es, ep, e2, c⟩, r⟩ := x
  exact ⟨ho _ d, z, ne, k _ _ (.inl rfl) e, mA, ⟨od, es, ep, k _ _ (.inr d) e2, c⟩, r⟩
 | own y => obtain ⟨ob, e⟩ := x; exact ⟨ob, k _ _ (.inl rfl) e⟩
 | xd fs => obtain ⟨mA, ⟨od, es, ep, e, c⟩, r⟩ := x; exact ⟨mA, ⟨od, es, ep, k _ _ (.inl rfl) e, c⟩, r⟩
 | rng lo hi => obtain ⟨t, u, v, e⟩ := x; exact ⟨t, u, v, k _ _ (.inl rfl) e⟩
 | frz ob u ih => obtain ⟨e, q⟩ := x; exact ⟨k _ _ (.inl rfl) e, ih q⟩
 | tbl ps =>
  obtain ⟨qs, e, tr, ch⟩ := x
  exact ⟨qs, k a _ (.inl rfl) e, tr, fun pos v hv => let ⟨c, oc, vs, q, t, t', e1, e2, r⟩ := ch pos v hv; ⟨c, oc, vs, q, t, t', e1, hf _ _ _ e2, r⟩⟩
 | met f y =>
  have e : h.get? a = some (PySem.W.methodObj (.ref f) (.ref y)) := x
  show h'.get? a = some (PySem.W.methodObj (.ref f) (.ref y))
  exact k a _ (.inl rfl) e
 | ext φ => obtain ⟨p, ⟨o, e⟩, st⟩ := x; exact ⟨st _ _ p fun o q => k _ _ (.inl rfl) q, ⟨o, k _ _ (.inl rfl) e⟩, st⟩
theorem HOk.lt (x : HOk P w H h) (e : H a = some o) : a < h.objs.size := (x a o e).lt
theorem HOk.fresh (x : HOk P w H h) (e : h.objs.size ≤ a) : H a = none := by
 cases q : H a with
 | none => rfl
 | some u => exact absurd (Nat.lt_of_lt_of_le (x.lt q) e) (Nat.lt_irrefl _)
theorem HOk.kept (x : HOk P w H h) (k : ∀ b u, h.get? b = some u → h'.get? b = some u) : HOk P w H h' := fun a o e =>
 (x a o e).stay (fun b u _ q => k b u q) (fun _ q => q) fun _ _ q => q
theorem HOk.laid (x : HOk P w H h) (k : ∀ b u, h.get? b = some u → h'.get? b = some u) (hp : h.objs.size ≤ a) (new : ObjOk P w (upd H a o) h' a o) : HOk P w (upd H a o) h' := fun b u e => by
 have hn := x.fresh hp
 by_cases hb : b = a
 · subst hb; rw [am] at e; cases e; exact new
 · rw [ak hb] at e
   exact (x b u e).stay (fun c v _ q => k c v q) (fun c q => by rw [ak (aj q hn)]; exact q) fun c xs q => by rw [ak (aj q hn)]; exact q
end
def Rd (H : Hp) (a : Addr) (u : HO) : Prop := H a = some u ∨ ∃ o, H a = some (.frz o u)
theorem Rd.of {H : Hp} {a : Addr} {u : HO} (h : H a = some u) : Rd H a u := .inl h
theorem Rd.ok {P : Program} {w : World} {H : Hp} {h : Heap} {a : Addr} {u : HO} (r : Rd H a u) (x : HOk P w H h) : ObjOk P w H h a u := by
 rcases r with r | ⟨o, r⟩
 · exact x a u r
 · obtain ⟨_, q⟩ := x a _ r
   exact q
def Mut : Option HO → Prop
 | some (.lst _) => True
 | some (.dK _) => True
 | some (.dT _) => True
 | some (.set _ _) => True
 | some (.ins _ _ _) => True
 | some (.ext _) => True
 | _ => False
section
variable {P : Program} {w : World} {H : Hp} {h h' : Heap} {x e : Addr} {o' : HO}
theorem HOk.write (ok : HOk P w H h) (mu : Mut (H x)) (he : e = x ∨ H e = some (.own x)) (k : ∀ b u, b ≠ e → h.get? b = some u → h'.get? b = some u) (heo : ∃ u, h'.get? e = some u)
 (new : ObjOk P w (upd H x o') h' x o') : HOk P w (upd H x o') h' := fun b u q => by
 have nown : ∀ c y, H c = some (.own y) → c ≠ x := fun c y r z => by subst z; rw [r] at mu; exact mu
 have ntup : ∀ c xs, H c = some (.tup xs) → c ≠ x := fun c xs r z => by subst z; rw [r] at mu; exact mu
 by_cases hb : b = x
 · subst hb; rw [am] at q; cases q; exact new
 · rw [ak hb] at q
   by_cases hbe : b = e
   · have q' : H b = some (.own x) := by
      rcases he with z | z
      · exact absurd (hbe.trans z) hb
      · rw [hbe]; exact z
     rw [q] at q'; cases q'
     obtain ⟨v, hv⟩ := heo
     exact ⟨v, by rw [hbe]; exact hv⟩
   · refine (ok b u q).stay (fun c v hc r => k c v ?_ r) (fun c r => by rw [ak (nown c b r)]; exact r) (fun c xs r => by rw [ak (ntup c xs r)]; exact r) fun c _ _ r => by rw [ak (fun z => by subst z; rw [r] at mu; exact mu)]; exact r
     rcases hc with rfl | hc
     · exact hbe
     · rintro rfl
       rcases he with z | z
       · exact nown c b hc z
       · rw [hc] at z; cases z; exact hb rfl
end
structure Un (fs ex : List Addr) (H H' : Hp) (h h' : Heap) : Prop where
 keep : ∀ b o, h.get? b = some o → H b = none → b ∉ fs → b ∉ ex → h'.get? b = some o
 slot : ∀ b o, h.get? b = some o → H b = none → b ∈ fs → b ∉ ex → ∃ sl, h'.get? b = some { o with slots := sl }
 free : ∀ b o, h.get? b = some o → H b = none → b ∉ ex → H' b = none
 there : ∀ b o, h.get? b = some o → b ∉ ex → ∃ o', h'.get? b = some o'
 tups : ∀ b xs, H b = some (.tup xs) → H' b = some (.tup xs)
 frzs : ∀ b o u, H b = some (.frz o u) → H' b = some (.frz o u)
 tbls : ∀ b ps, H b = some (.tbl ps) → ∃ more, H' b = some (.tbl (ps ++ more))
section
variable {fs fs' ex ex' : List Addr} {H H1 H2 : Hp} {h h1 h2 h' : Heap} {a x e : Addr} {o : HO}
theorem Un.any (u : Un fs ex H H1 h h1) {b : Addr} {ob : Obj} (q : h.get? b = some ob) (n : H b = none) (hx : b ∉ ex) : ∃ sl, h1.get? b = some { ob with slots := sl } := by
 by_cases hb : b ∈ fs
 · exact u.slot b ob q n hb hx
 · exact ⟨ob.slots, u.keep b ob q n hb hx⟩
theorem Un.trans (a : Un fs ex H H1 h h1) (b : Un fs ex H1 H2 h1 h2) : Un fs ex H H2 h h2 where
 keep := fun c ob q n hc hx => b.keep c ob (a.keep c ob q n hc hx) (a.free c ob q n hx) hc hx
 slot := fun c ob q n hc hx => by
  obtain ⟨sl, e1⟩ := a.slot c ob q n hc hx
  obtain ⟨sl', e2⟩ := b.slot c _ e1 (a.free c ob q n hx) hc hx
  exact ⟨sl', e2⟩
 free := fun c ob q n hx => by
  obtain ⟨o', e1⟩ := a.there c ob q hx
  exact b.free c o' e1 (a.free c ob q n hx) hx
 there := fun c ob q hx => by
  obtain ⟨o', e1⟩ := a.there c ob q hx
  exact b.there c o' e1 hx
 tups := fun c xs q => b.tups c xs (a.tups c xs q)
 frzs := fun c ob xs q => b.frzs c ob xs (a.frzs c ob xs q)
 tbls := fun c ps q => by
  obtain ⟨m1, e1⟩ := a.tbls c ps q
  obtain ⟨m2, e2⟩ := b.tbls c _ e1
  exact ⟨m1 ++ m2, by rw [e2, Array.append_assoc]⟩
theorem Un.kept (k : ∀ b u, h.get? b = some u → h'.get? b = some u) : Un fs ex H H h h' :=
 ⟨fun b ob q _ _ _ => k b ob q, fun b ob q _ _ _ => ⟨ob.slots, k b ob q⟩, fun _ _ _ n _ => n, fun b ob q _ => ⟨ob, k b ob q⟩, fun _ _ q => q, fun _ _ _ q => q, fun _ ps q => ⟨#[], by rw [q]; simp⟩⟩
theorem Un.refl : Un fs ex H H h h := Un.kept fun _ _ q => q
theorem Un.laid (k : ∀ b u, h.get? b = some u → h'.get? b = some u) (hp : h.objs.size ≤ a) (hn : H a = none) : Un fs ex H (upd H a o) h h' where
 keep := fun b u q _ _ _ => k b u q
 slot := fun b u q _ _ _ => ⟨u.slots, k b u q⟩
 free := fun b u q n _ => by rw [ak (Nat.ne_of_lt (Nat.lt_of_lt_of_le (Heap.lt_size q) hp))]; exact n
 there := fun b u q _ => ⟨u, k b u q⟩
 tups := fun b xs q => by rw [ak (aj q hn)]; exact q
 frzs := fun b u xs q => by rw [ak (aj q hn)]; exact q
 tbls := fun b ps q => ⟨#[], by rw [ak (aj q hn), q]; simp⟩
theorem Un.write (mu : Mut (H x)) (he : e = x ∨ H e = some (.own x)) (k : ∀ b u, b ≠ e → h.get? b = some u → h'.get? b = some u) (heo : ∃ u, h'.get? e = some u) : Un fs ex H (upd H x o) h h' := by
 have hx : ∀ b, H b = none → b ≠ x := fun b n z => by subst z; rw [n] at mu; exact mu
 have hb : ∀ b, H b = none → b ≠ e := fun b n z => by
  subst z
  rcases he with r | r
  · exact hx b n r
  · rw [n] at r; cases r
 have hm : ∀ b u, H b = some u → ¬ Mut (some u) → b ≠ x := fun b u q nm z => by subst z; rw [q] at mu; exact nm mu
 refine ⟨fun b u q n _ _ => k b u (hb b n) q, fun b u q n _ _ => ⟨u.slots, k b u (hb b n) q⟩, fun b u q n _ => by rw [ak (hx b n)]; exact n, fun b u q _ => ?_,
  fun b xs q => by rw [ak (hm b _ q fun z => z)]; exact q, fun b u xs q => by rw [ak (hm b _ q fun z => z)]; exact q, fun b ps q => ⟨#[], by rw [ak (hm b _ q fun z => z), q]; simp⟩⟩
 by_cases hbe : b = e
 · subst hbe; exact heo
 · exact ⟨u, k b u hbe q⟩
theorem Un.mono (u : Un fs ex H H1 h h1) (hs : ∀ b ∈ fs, b ∈ fs') (hx : ∀ b ∈ ex, b ∈ ex') : Un fs' ex' H H1 h h1 :=
 ⟨fun b ob q n hb he => u.keep b ob q n (fun z => hb (hs b z)) fun z => he (hx b z), fun _ _ q n _ he => u.any q n fun z => he (hx _ z), fun b ob q n he => u.free b ob q n fun z => he (hx b z), fun b ob q he => u.there b ob q fun z => he (hx b z), u.tups, u.frzs, u.tbls⟩
end
def trk (h : Heap) (H : Hp) : List Addr := (List.range h.objs.size).filter fun a => (H a).isSome
def nz (h : Heap) (H : Hp) : Heap := PySem.W.hideAll h (trk h H)
theorem kL (h : Heap) (H : Hp) : (nz h H).objs.size = h.objs.size := PySem.W.hideAll_size _ _
theorem nA {h : Heap} {H : Hp} {b : Addr} {o : Obj} (e : h.get? b = some o) (n : H b = none) : (nz h H).get? b = some o :=
 PySem.W.hideAll_get _ e fun hm => by
  have q : (H b).isSome = true := (List.mem_filter.mp hm).2
  rw [n] at q; simp at q
theorem qw {h : Heap} {H : Hp} {b : Addr} {o : Obj} (e : (nz h H).get? b = some o) : h.get? b = some o ∧ H b = none := by
 have e' : h.get? b = some o := PySem.W.of_hideAll (trk h H) e
 refine ⟨e', ?_⟩
 cases q : H b with
 | none => rfl
 | some x =>
  have hm : b ∈ trk h H := List.mem_filter.mpr ⟨List.mem_range.mpr (Heap.lt_size e'), by simp [q]⟩
  have z : (nz h H).get? b = none := PySem.W.hideAll_none (trk h H) hm
  rw [z] at e; cases e
def qz (g h : Heap) (L : Addr) : List (Addr × Obj) := (List.range h.objs.size).filterMap fun a => if a = L ∨ (g.get? a).isSome = true then none else (h.get? a).map fun o => (a, o)
def rest (g h : Heap) (L d : Addr) : List (Addr × Obj) := (qz g h L).filter fun p => decide (p.1 ≠ d)
structure Mod (K : PySem.W.Frag) (mg : Str → Option Value) (base : Heap) : Prop where
 kin : K.In base
 glob : base.Ns mainGlobals mg
 blt : ∃ mb, base.Ns builtinsNs mb ∧ ∀ x : Str, x ≠ "__name__" → mb x = bootBuiltins x
 nolimit : base.NoLimit
structure Cx where
 prog : Program
 w : World
 K : PySem.W.Frag
 mg : Str → Option Value
 base : Heap
 A : Around
 N : List Str
 s₀ : Shared
 H₀ : Hp
 env : Env
 outer : List Env
 stack : List Env
 ex : List Addr
 fn : Str → Bool
 calm : Bool
 pn : List (Addr × Obj)
 xe : Value → Shared → Prop
def frs (l : List Env) : List Addr := l.filterMap (·.frame)
abbrev Cx.fs (X : Cx) : List Addr := frs X.outer
def Vis (sc : Scope) (x : Str) : Prop := sc.names.lookup x = some .local ∨ sc.names.lookup x = some .cell ∨ sc.names.lookup x = some .free
def Loc (sc : Scope) (x : Str) : Prop := sc.names.lookup x = some .local ∨ sc.names.lookup x = some .cell
def zC (env : Env) (h : Heap) (m : Str → Option Value) (x : Str) (u : Value) : Prop :=
 (env.kindOf x = some .local ∧ m x = some u) ∨ ((env.kindOf x = some .cell ∨ env.kindOf x = some .free) ∧ ∃ c, env.cells.lookup x = some c ∧ h.IsCell c (some u))
structure Cx.Ok (X : Cx) : Prop where
 mod : Mod X.K X.mg X.base
 kind : X.env.scope.kind = .function
 glob : X.env.globals = mainGlobals
 blt : X.env.builtins = builtinsNs
 above : X.s₀.heap.objs.size ≤ X.env.locals
 inj : ∀ x y c, X.env.cells.lookup x = some c → X.env.cells.lookup y = some c → x = y
 has : ∀ x, (X.env.kindOf x = some .cell ∨ X.env.kindOf x = some .free) → ∃ c, X.env.cells.lookup x = some c
 cab : ∀ x c, X.fn x = true → X.env.cells.lookup x = some c → X.s₀.heap.objs.size ≤ c
 hd : X.calm = true → X.A.handled = none
 frames : X.A.frames = some X.stack
 stk : X.stack = X.outer ∨ (X.stack = X.env :: X.outer ∧ X.env.frame = some X.env.locals)
 exf : ∀ b ∈ X.ex, b ≠ X.env.locals ∧ ∀ x c, X.env.cells.lookup x = some c → c ≠ b
 bs : ∀ b o, X.base.get? b = some o → X.s₀.heap.get? b = some o ∧ X.H₀ b = none
 bsz : X.base.objs.size ≤ X.s₀.heap.objs.size
 noex : ∀ b o, X.base.get? b = some o → b ∉ X.ex
 exfs : ∀ b ∈ X.ex, b ∉ X.fs
 funs : X.s₀.heap.FunFrames X.base X.outer
 frf : ∀ b ∈ X.fs, X.H₀ b = none
structure Inv (X : Cx) (pins : List (Addr × Obj)) (σ : List (Option V)) (H : Hp) (s : Shared) : Prop where
 ok : X.Ok
 os : s.os = X.s₀.os
 bare : AllBare s.gens
 base : Un X.fs X.ex X.H₀ H X.s₀.heap s.heap
 loc : ∃ m, s.heap.Ns X.env.locals m ∧ ∀ (i : Nat) (x : Str) (v : V), X.N[i]? = some x → σ[i]? = some (some v) → Vis X.env.scope x → ∃ u, RelV v u ∧ zC X.env s.heap m x u
 cell : ∀ x c, X.env.cells.lookup x = some c → ∃ v, s.heap.IsCell c v
 free : H X.env.locals = none
 freeC : ∀ x c, X.env.cells.lookup x = some c → H c = none
 pin : ∀ p ∈ X.pn ++ pins, s.heap.get? p.1 = some p.2 ∧ H p.1 = none ∧ p.1 ≠ X.env.locals ∧ p.1 ∉ X.fs ∧ ∀ v, p.2.data ≠ .cell v
 hok : HOk X.prog X.w H s.heap
 len : σ.length = X.N.length
section
variable {X : Cx} {pins : List (Addr × Obj)} {σ : List (Option V)} {H H' : Hp} {s : Shared} {h' : Heap}
theorem Cx.Ok.nofr (ok : X.Ok) {b : Addr} {o : Obj} (e : X.base.get? b = some o) : b ∉ X.fs := fun hb => by
 have := (ok.funs.mem hb).1
 rw [e] at this; cases this
theorem Inv.bs (I : Inv X pins σ H s) : ∀ b o, X.base.get? b = some o → s.heap.get? b = some o ∧ H b = none := fun b o e =>
 ⟨I.base.keep b o (I.ok.bs b o e).1 (I.ok.bs b o e).2 (I.ok.nofr e) (I.ok.noex b o e), I.base.free b o (I.ok.bs b o e).1 (I.ok.bs b o e).2 (I.ok.noex b o e)⟩
theorem Inv.bk (I : Inv X pins σ H s) : ∀ b o, X.base.get? b = some o → s.heap.get? b = some o := fun b o e => (I.bs b o e).1
theorem Inv.mod (I : Inv X pins σ H s) : Mod X.K X.mg X.base := I.ok.mod
theorem Inv.kIn (I : Inv X pins σ H s) : X.K.In s.heap := I.ok.mod.kin.keeps I.bk
theorem Inv.nolimit (I : Inv X pins σ H s) : s.heap.NoLimit := I.ok.mod.nolimit.keeps I.bk
theorem Inv.fr (I : Inv X pins σ H s) : ∃ m, Fr X.base X.env.locals s.heap m :=
 let ⟨m, hn, _⟩ := I.loc
 ⟨m, hn, I.bk, Nat.le_trans I.ok.bsz I.ok.above⟩
theorem Inv.lt (I : Inv X pins σ H s) : X.env.locals < s.heap.objs.size := let ⟨_, hn, _⟩ := I.loc; hn.lt
theorem Inv.sz (I : Inv X pins σ H s) : X.s₀.heap.objs.size ≤ s.heap.objs.size := Nat.le_trans I.ok.above (Nat.le_of_lt I.lt)
theorem Inv.nofs (I : Inv X pins σ H s) {a : Addr} (h : s.heap.objs.size ≤ a) : a ∉ X.fs := fun hb => by
 obtain ⟨_, o, ho, _⟩ := I.ok.funs.mem hb
 exact absurd (Nat.lt_of_lt_of_le (Heap.lt_size ho) (Nat.le_trans I.sz h)) (Nat.lt_irrefl _)
theorem Inv.cne (I : Inv X pins σ H s) : ∀ x c, X.env.cells.lookup x = some c → c ≠ X.env.locals := fun x c e z => by
 obtain ⟨v, o, ho, hd⟩ := I.cell x c e
 obtain ⟨m, ⟨o', es, ep, ho', hd', _⟩, _⟩ := I.loc
 rw [z, ho'] at ho; cases ho; rw [hd'] at hd; cases hd
theorem Inv.funs (I : Inv X pins σ H s) : s.heap.FunFrames X.base X.outer := by
 have all : ∀ (l : List Env), (∀ b ∈ frs l, b ∈ X.fs) → X.s₀.heap.FunFrames X.base l → s.heap.FunFrames X.base l := by
  intro l
  induction l with
  | nil => intro _ _; trivial
  | cons env r ih =>
   intro hs hl
   obtain ⟨hk, ⟨L, o, hf, hn, ho, hd⟩, hr⟩ := hl
   have hL : L ∈ X.fs := hs L (by unfold frs; rw [List.filterMap_cons, hf]; exact List.mem_cons_self)
   obtain ⟨sl, e⟩ := I.base.slot L o ho (I.ok.frf L hL) hL fun z => I.ok.exfs L z hL
   exact ⟨hk, ⟨L, _, hf, hn, e, hd⟩, ih (fun b hb => hs b (by unfold frs; rw [List.filterMap_cons, hf]; exact List.mem_cons_of_mem _ hb)) hr⟩
 exact all X.outer (fun _ hb => hb) I.ok.funs
theorem Inv.stack (I : Inv X pins σ H s) : s.heap.FunFrames X.base X.stack := by
 rcases I.ok.stk with e | ⟨e, hf⟩
 · rw [e]; exact I.funs
 · rw [e]
   obtain ⟨m, hn, _⟩ := I.loc
   refine .cons (by rw [I.ok.kind]; decide) hf hn ?_ I.funs
   exact Heap.get?_none_of_le (Nat.le_trans I.ok.bsz I.ok.above)
theorem Inv.stkSub (I : Inv X pins σ H s) : ∀ b ∈ frs X.stack, b ∈ X.env.locals :: X.fs := fun b hb => by
 rcases I.ok.stk with e | ⟨e, hf⟩
 · rw [e] at hb; exact List.mem_cons_of_mem _ hb
 · rw [e] at hb
   unfold frs at hb
   rw [List.filterMap_cons, hf] at hb
   exact hb
theorem Inv.stkFree (I : Inv X pins σ H s) : ∀ b ∈ frs X.stack, H b = none := fun b hb => by
 rcases List.mem_cons.mp (I.stkSub b hb) with e | hb
 · rw [e]; exact I.free
 · obtain ⟨_, o, ho, _⟩ := I.ok.funs.mem hb
   exact I.base.free b o ho (I.ok.frf b hb) fun z => I.ok.exfs b z hb
theorem Inv.step {g' : Array GenState} {t' : Nat} {d' : Drawn} {ch : List Addr} (I : Inv X pins σ H s)
 (hch : ∀ b ∈ ch, (b ∈ X.ex ∨ X.s₀.heap.objs.size ≤ b) ∧ b ≠ X.env.locals ∧ (∀ x c, X.env.cells.lookup x = some c → c ≠ b) ∧ ∀ p ∈ X.pn ++ pins, p.1 ≠ b)
 (keep : ∀ b o, b ≠ X.env.locals → b ∉ X.fs → b ∉ ch → s.heap.get? b = some o → H b = none → h'.get? b = some o)
 (slot : ∀ b o, b ≠ X.env.locals → b ∈ X.fs → b ∉ ch → s.heap.get? b = some o → H b = none → ∃ sl, h'.get? b = some { o with slots := sl }) (free : ∀ b o, b ∉ ch → s.heap.get? b = some o → H b = none → H' b = none)
 (there : ∀ b o, b ∉ ch → s.heap.get? b = some o → ∃ o', h'.get? b = some o')
 (tups : ∀ b xs, H b = some (.tup xs) → H' b = some (.tup xs)) (frzs : ∀ b o u, H b = some (.frz o u) → H' b = some (.frz o u)) (tbls : ∀ b ps, H b = some (.tbl ps) → ∃ more, H' b = some (.tbl (ps ++ more)))
 (ns : ∀ m, s.heap.Ns X.env.locals m → h'.Ns X.env.locals m) (hok : HOk X.prog X.w H' h') (hg : AllBare g') :
 Inv X pins σ H' { s with heap := h', gens := g', drawn := d', toks := t' } := by
 have neL : ∀ b o, X.s₀.heap.get? b = some o → b ≠ X.env.locals := fun b o e => Nat.ne_of_lt (Nat.lt_of_lt_of_le (Heap.lt_size e) I.ok.above)
 have neC : ∀ b o, X.s₀.heap.get? b = some o → b ∉ X.ex → b ∉ ch := fun b o e hx hb => by
  rcases (hch b hb).1 with z | z
  · exact hx z
  · exact absurd (Nat.lt_of_lt_of_le (Heap.lt_size e) z) (Nat.lt_irrefl _)
 have cellK : ∀ x c, X.env.cells.lookup x = some c → ∀ v, s.heap.IsCell c v → h'.IsCell c v := fun x c e v ⟨o, ho, hd⟩ => by
  have nch : c ∉ ch := fun z => (hch c z).2.2.1 x c e rfl
  by_cases hc : c ∈ X.fs
  · obtain ⟨sl, q⟩ := slot c o (I.cne x c e) hc nch ho (I.freeC x c e)
    exact ⟨_, q, hd⟩
  · exact ⟨o, keep c o (I.cne x c e) hc nch ho (I.freeC x c e), hd⟩
 refine ⟨I.ok, I.os, hg, ⟨fun b o e n hb hx => ?_, fun b o e n hb hx => ?_, fun b o e n hx => ?_, fun b o e hx => ?_, fun b xs e => tups b xs (I.base.tups b xs e), fun b o xs e => frzs b o xs (I.base.frzs b o xs e), fun b ps e => ?_⟩, ?_, fun x c e => ?_, ?_, fun x c e => ?_, fun p hp => ?_, hok, I.len⟩
 · exact keep b o (neL b o e) hb (neC b o e hx) (I.base.keep b o e n hb hx) (I.base.free b o e n hx)
 · obtain ⟨sl, e1⟩ := I.base.slot b o e n hb hx
   obtain ⟨sl', e2⟩ := slot b _ (neL b o e) hb (neC b o e hx) e1 (I.base.free b o e n hx)
   exact ⟨sl', e2⟩
 · obtain ⟨o', e1⟩ := I.base.there b o e hx
   exact free b o' (neC b o e hx) e1 (I.base.free b o e n hx)
 · obtain ⟨o', e1⟩ := I.base.there b o e hx
   exact there b o' (neC b o e hx) e1
 · obtain ⟨m1, e1⟩ := I.base.tbls b ps e
   obtain ⟨m2, e2⟩ := tbls b _ e1
   exact ⟨m1 ++ m2, by rw [e2, Array.append_assoc]⟩
 · obtain ⟨m, hn, hl⟩ := I.loc
   refine ⟨m, ns m hn, fun i x v e1 e2 e3 => ?_⟩
   obtain ⟨u, r, l⟩ := hl i x v e1 e2 e3
   refine ⟨u, r, ?_⟩
   rcases l with l | ⟨k, c, e, z⟩
   · exact .inl l
   · exact .inr ⟨k, c, e, cellK x c e _ z⟩
 · obtain ⟨v, z⟩ := I.cell x c e
   exact ⟨v, cellK x c e v z⟩
 · obtain ⟨m, ⟨o, _, _, ho, _⟩, _⟩ := I.loc
   exact free _ o (fun z => (hch _ z).2.1 rfl) ho I.free
 · obtain ⟨v, o, ho, hd⟩ := I.cell x c e
   exact free c o (fun z => (hch c z).2.2.1 x c e rfl) ho (I.freeC x c e)
 · obtain ⟨e, n, ne, nf, d⟩ := I.pin p hp
   have nch : p.1 ∉ ch := fun z => (hch p.1 z).2.2.2 p hp rfl
   exact ⟨keep p.1 p.2 ne nf nch e n, free p.1 p.2 nch e n, ne, nf, d⟩
theorem Inv.un {t' : Nat} (I : Inv X pins σ H s) (u : Un X.fs [] H H' s.heap h') (hok : HOk X.prog X.w H' h') : Inv X pins σ H' { s with heap := h', toks := t' } := by
 obtain ⟨m, ⟨o, es, ep, ho, r⟩, _⟩ := id I.loc
 obtain ⟨sl, hL⟩ := u.any ho I.free (by simp)
 exact I.step (g' := s.gens) (d' := s.drawn) (ch := []) (fun _ z => nomatch z) (fun b o _ hb _ e n => u.keep b o e n hb (by simp)) (fun b o _ hb _ e n => u.slot b o e n hb (by simp)) (fun b o _ e n => u.free b o e n (by simp)) (fun b o _ e => u.there b o e (by simp)) u.tups u.frzs u.tbls (fun m' hm => by
  obtain ⟨o', es', ep', ho', r'⟩ := hm
  rw [ho] at ho'; cases ho'
  exact ⟨_, es', ep', hL, r'⟩) hok I.bare
theorem Inv.call {g' : Array GenState} {t' : Nat} {d' : Drawn} {ch : List Addr} (I : Inv X pins σ H s) (u : Un (frs X.stack) ch H H' s.heap h') (hok : HOk X.prog X.w H' h') (hg : AllBare g')
 (hch : ∀ b ∈ ch, (b ∈ X.ex ∨ X.s₀.heap.objs.size ≤ b) ∧ b ≠ X.env.locals ∧ (∀ x c, X.env.cells.lookup x = some c → c ≠ b) ∧ ∀ p ∈ X.pn ++ pins, p.1 ≠ b) :
 Inv X pins σ H' { s with heap := h', gens := g', drawn := d', toks := t' } := by
 obtain ⟨m, ⟨o, es, ep, ho, r⟩, _⟩ := id I.loc
 obtain ⟨sl, hL⟩ := u.any ho I.free fun z => (hch _ z).2.1 rfl
 exact I.step (ch := ch) hch (fun b o hL hb hc e n => u.keep b o e n (fun z => (List.mem_cons.mp (I.stkSub b z)).elim hL hb) hc) (fun b o _ _ hc e n => u.any e n hc) (fun b o hc e n => u.free b o e n hc) (fun b o hc e => u.there b o e hc) u.tups u.frzs u.tbls (fun m' hm => by
  obtain ⟨o', es', ep', ho', r'⟩ := hm
  rw [ho] at ho'; cases ho'
  exact ⟨_, es', ep', hL, r'⟩) hok hg
theorem Inv.turned {t' : Nat} {it : Addr} (I : Inv X pins σ H s) (k : ∀ b o, b ≠ it → s.heap.get? b = some o → h'.get? b = some o) (hn : H it = none) (hL : it ≠ X.env.locals)
 (h1 : it ∈ X.ex ∨ X.s₀.heap.objs.size ≤ it) (h2 : ∀ x c, X.env.cells.lookup x = some c → c ≠ it) (h3 : ∀ p ∈ X.pn ++ pins, p.1 ≠ it) : Inv X pins σ H { s with heap := h', toks := t' } := by
 have nit : ∀ b u, H b = some u → b ≠ it := fun b u e z => by rw [z, hn] at e; cases e
 refine I.step (g' := s.gens) (d' := s.drawn) (ch := [it]) (fun b hb => ?_) (fun b o _ _ hc e _ => k b o (fun z => hc (by simp [z])) e) (fun b o _ _ hc e _ => ⟨o.slots, k b o (fun z => hc (by simp [z])) e⟩) (fun _ _ _ _ n => n)
  (fun b o hc e => ⟨o, k b o (fun z => hc (by simp [z])) e⟩) (fun _ _ e => e) (fun _ _ _ e => e) (fun b ps e => ⟨#[], by rw [e]; simp⟩) (fun m hm => ?_) (fun b u e => ?_) I.bare
 · have e : b = it := by simpa using hb
   subst e
   exact ⟨h1, hL, h2, h3⟩
 · obtain ⟨o, es, ep, ho, r⟩ := hm
   exact ⟨o, es, ep, k _ o (Ne.symm hL) ho, r⟩
 · refine (I.hok b u e).stay (fun c v hc q => k c v ?_ q) (fun _ q => q) fun _ _ q => q
   rcases hc with z | z
   · rw [z]; exact nit b u e
   · exact nit c _ z
theorem Inv.tok (I : Inv X pins σ H s) (t : Nat) : Inv X pins σ H { s with toks := t } := I.un (h' := s.heap) (t' := t) Un.refl I.hok
theorem Inv.kept {t' : Nat} (I : Inv X pins σ H s) (k : ∀ b u, s.heap.get? b = some u → h'.get? b = some u) : Inv X pins σ H { s with heap := h', toks := t' } := I.un (Un.kept k) (I.hok.kept k)
theorem Inv.laid {a : Addr} {o : HO} {t' : Nat} (I : Inv X pins σ H s) (k : ∀ b u, s.heap.get? b = some u → h'.get? b = some u) (hp : s.heap.objs.size ≤ a) (new : ObjOk X.prog X.w (upd H a o) h' a o) :
 Inv X pins σ (upd H a o) { s with heap := h', toks := t' } := I.un (Un.laid k hp (I.hok.fresh hp)) (I.hok.laid k hp new)
theorem Inv.write {x e : Addr} {o : HO} {t' : Nat} (I : Inv X pins σ H s) (mu : Mut (H x)) (he : e = x ∨ H e = some (.own x)) (k : ∀ b u, b ≠ e → s.heap.get? b = some u → h'.get? b = some u) (heo : ∃ u, h'.get? e = some u)
 (new : ObjOk X.prog X.w (upd H x o) h' x o) : Inv X pins σ (upd H x o) { s with heap := h', toks := t' } := I.un (Un.write mu he k heo) (I.hok.write mu he k heo new)
theorem Inv.weak {σ' : List (Option V)} (I : Inv X pins σ H s) (hl : σ'.length = σ.length) (w : ∀ (i : Nat) v, σ'[i]? = some (some v) → σ[i]? = some (some v)) : Inv X pins σ' H s :=
 ⟨I.ok, I.os, I.bare, I.base, let ⟨m, hn, hl'⟩ := I.loc; ⟨m, hn, fun i x v e1 e2 e3 => hl' i x v e1 (w i v e2) e3⟩, I.cell, I.free, I.freeC, I.pin, I.hok, hl.trans I.len⟩
theorem Inv.pins_of {pins' : List (Addr × Obj)} (I : Inv X pins σ H s) (h : ∀ p ∈ pins', s.heap.get? p.1 = some p.2 ∧ H p.1 = none ∧ p.1 ≠ X.env.locals ∧ p.1 ∉ X.fs ∧ ∀ v, p.2.data ≠ .cell v) : Inv X pins' σ H s :=
 ⟨I.ok, I.os, I.bare, I.base, I.loc, I.cell, I.free, I.freeC, fun p hp => (List.mem_append.mp hp).elim (fun z => I.pin p (List.mem_append_left _ z)) (h p), I.hok, I.len⟩
theorem fI {N : List Str} (hN : N.Nodup) {i j : Nat} {x : Str} (a : N[i]? = some x) (b : N[j]? = some x) : i = j := by
 obtain ⟨h1, e1⟩ := List.getElem?_eq_some_iff.mp a
 obtain ⟨h2, e2⟩ := List.getElem?_eq_some_iff.mp b
 exact (List.getElem_inj hN).mp (e1.trans e2.symm)
theorem kM {M : Model} {A : Around} {E : Value → Shared → Prop} {i : Nat} {x : Str} {v : V} {u : Value} {Q : Unit → Shared → Prop} (I : Inv X pins σ H s) (hN : X.N.Nodup) (hi : X.N[i]? = some x) (hx : Loc X.env.scope x) (r : RelV v u)
 (h : ∀ s', Inv X pins (σ.set i (some v)) H s' → (∃ a, Heap.SameBut a s.heap s'.heap ∧ (a = X.env.locals ∨ X.env.cells.lookup x = some a)) → Q () s') (hf : X.fn x = true ∨ X.env.scope.names.lookup x = some .local := by first | exact .inl rfl | exact .inr rfl | assumption) : wpAny M A (storeName X.env x u) Q E s := by
 obtain ⟨m, hn, hl⟩ := id I.loc
 have hcls : (X.env.scope.kind == .class || (X.env.scope.kind == .module && X.env.locals != X.env.globals)) = false := by rw [I.ok.kind]; rfl
 have hiσ : i < σ.length := by rw [I.len]; exact (List.getElem?_eq_some_iff.mp hi).1
 have cne := I.cne
 have tracked : ∀ {a : Addr} {h' : Heap}, (∃ o, s.heap.get? a = some o ∧ H a = none) → Heap.SameBut a s.heap h' → HOk X.prog X.w H h' := fun {a h'} ha hs b ob e => by
  obtain ⟨_, _, hfree⟩ := ha
  refine (I.hok b ob e).stay (fun c w' hc q => (hs.2 c ?_).trans q) (fun _ q => q) fun _ _ q => q
  rintro rfl
  rcases hc with rfl | hc
  · rw [hfree] at e; cases e
  · rw [hfree] at hc; cases hc
 rcases hx with hk | hk
 · refine wpAny_storeName_local hk hn (fun h' hn' hs => ?_) hcls
   obtain ⟨oL, _, _, hoL, _⟩ := id hn
   refine h _ ⟨I.ok, I.os, I.bare, ⟨fun b o e n hb hx => ?_, fun b o e n hb hx => ?_, I.base.free, fun b o e hx => ?_, I.base.tups, I.base.frzs, I.base.tbls⟩, ⟨_, hn', fun j y v' e1 e2 e3 => ?_⟩, fun y c e => ?_, I.free, I.freeC, fun p hp => ?_, tracked ⟨oL, hoL, I.free⟩ hs, by simpa using I.len⟩ ⟨_, hs, .inl rfl⟩
   · exact (hs.2 b (Nat.ne_of_lt (Nat.lt_of_lt_of_le (Heap.lt_size e) I.ok.above))).trans (I.base.keep b o e n hb hx)
   · obtain ⟨sl, e1⟩ := I.base.slot b o e n hb hx
     exact ⟨sl, (hs.2 b (Nat.ne_of_lt (Nat.lt_of_lt_of_le (Heap.lt_size e) I.ok.above))).trans e1⟩
   · obtain ⟨o', e1⟩ := I.base.there b o e hx
     exact ⟨o', (hs.2 b (Nat.ne_of_lt (Nat.lt_of_lt_of_le (Heap.lt_size e) I.ok.above))).trans e1⟩
   · by_cases hj : j = i
     · subst hj
       rw [hi] at e1; cases e1
       rw [List.getElem?_set_self hiσ] at e2
       cases e2
       exact ⟨u, r, .inl ⟨hk, by simp⟩⟩
     · rw [List.getElem?_set_ne (Ne.symm hj)] at e2
       obtain ⟨u', r', q⟩ := hl j y v' e1 e2 e3
       refine ⟨u', r', ?_⟩
       rcases q with ⟨k, e⟩ | ⟨k, c, e, z⟩
       · refine .inl ⟨k, ?_⟩
         have : y ≠ x := fun e => hj (fI hN e1 (e ▸ hi))
         simp [this, e]
       · exact .inr ⟨k, c, e, z.sameBut hs (cne y c e)⟩
   · obtain ⟨w', z⟩ := I.cell y c e
     exact ⟨w', z.sameBut hs (cne y c e)⟩
   · obtain ⟨e, n, ne, nf, d⟩ := I.pin p hp
     exact ⟨(hs.2 p.1 ne).trans e, n, ne, nf, d⟩
 · have hfn : X.fn x = true := by
    rcases hf with z | z
    · exact z
    · rw [z] at hk; cases hk
   obtain ⟨c, hc⟩ := I.ok.has x (.inl hk)
   obtain ⟨w', z⟩ := I.cell x c hc
   refine wpAny_storeName_cell I.ok.kind hk hc z (fun h' hc' hs => ?_)
   obtain ⟨oc, hoc, hocd⟩ := id z
   refine h { s with heap := h' } ⟨I.ok, I.os, I.bare, ⟨fun b o e n hb hx => ?_, fun b o e n hb hx => ?_, I.base.free, fun b o e hx => ?_, I.base.tups, I.base.frzs, I.base.tbls⟩, ⟨m, hn.sameBut hs (Ne.symm (cne x c hc)), fun j y v' e1 e2 e3 => ?_⟩, fun y c' e => ?_, I.free, I.freeC, fun p hp => ?_, tracked ⟨oc, hoc, I.freeC x c hc⟩ hs, by simpa using I.len⟩ ⟨c, hs, .inr hc⟩
   · exact (hs.2 b (Nat.ne_of_lt (Nat.lt_of_lt_of_le (Heap.lt_size e) (I.ok.cab x c hfn hc)))).trans (I.base.keep b o e n hb hx)
   · obtain ⟨sl, e1⟩ := I.base.slot b o e n hb hx
     exact ⟨sl, (hs.2 b (Nat.ne_of_lt (Nat.lt_of_lt_of_le (Heap.lt_size e) (I.ok.cab x c hfn hc)))).trans e1⟩
   · obtain ⟨o', e1⟩ := I.base.there b o e hx
     exact ⟨o', (hs.2 b (Nat.ne_of_lt (Nat.lt_of_lt_of_le (Heap.lt_size e) (I.ok.cab x c hfn hc)))).trans e1⟩
   · by_cases hj : j = i
     · subst hj
       rw [hi] at e1; cases e1
       rw [List.getElem?_set_self hiσ] at e2
       cases e2
       exact ⟨u, r, .inr ⟨.inl hk, c, hc, hc'⟩⟩
     · rw [List.getElem?_set_ne (Ne.symm hj)] at e2
       obtain ⟨u', r', q⟩ := hl j y v' e1 e2 e3
       refine ⟨u', r', ?_⟩
       rcases q with q | ⟨k, c', e, z'⟩
       · exact .inl q
       · refine .inr ⟨k, c', e, z'.sameBut hs ?_⟩
         rintro rfl
         exact hj (fI hN e1 (I.ok.inj _ _ _ e hc ▸ hi))
   · by_cases hcc : c' = c
     · subst hcc; exact ⟨_, hc'⟩
     · obtain ⟨w2, z2⟩ := I.cell y c' e
       exact ⟨w2, z2.sameBut hs hcc⟩
   · obtain ⟨e, n, ne, nf, d⟩ := I.pin p hp
     refine ⟨(hs.2 p.1 ?_).trans e, n, ne, nf, d⟩
     intro q
     rw [q, hoc] at e
     have q' : oc = p.2 := Option.some.inj e
     exact d w' (by rw [← q']; exact hocd)
theorem dH {M : Model} {A : Around} {E : Value → Shared → Prop} {i : Nat} {x : Str} {v : V} {u : Value} {Q : Unit → Shared → Prop} (I : Inv X pins σ H s) (hN : X.N.Nodup) (hi : X.N[i]? = some x) (hx : Loc X.env.scope x) (r : RelV v u)
 (h : ∀ s', Inv X pins (σ.set i (some v)) H s' → Q () s') (hf : X.fn x = true ∨ X.env.scope.names.lookup x = some .local := by first | exact .inl rfl | exact .inr rfl | assumption) : wpAny M A (storeName X.env x u) Q E s :=
 kM I hN hi hx r (fun s' I' _ => h s' I') hf
theorem Inv.call' {s' : Shared} {ch : List Addr} (I : Inv X pins σ H s) (ho : s'.os = s.os) (u : Un (frs X.stack) ch H H' s.heap s'.heap) (hok : HOk X.prog X.w H' s'.heap) (hg : AllBare s'.gens)
 (hch : ∀ b ∈ ch, (b ∈ X.ex ∨ X.s₀.heap.objs.size ≤ b) ∧ b ≠ X.env.locals ∧ (∀ x c, X.env.cells.lookup x = some c → c ≠ b) ∧ ∀ p ∈ X.pn ++ pins, p.1 ≠ b) : Inv X pins σ H' s' := by
 obtain ⟨h', g', d', t', o'⟩ := s'
 have e : o' = s.os := ho
 subst e
 exact I.call (g' := g') (t' := t') (d' := d') u hok hg hch
end
abbrev XK := Value → Option Addr → Hp → Prop
abbrev St := List (Option V)
abbrev VK := V → Hp → Prop
abbrev TE := St → Hp → VK → Prop
abbrev TT := St → Hp → (Bool → Hp → Prop) → Prop
abbrev TA := St → Hp → (List V → Hp → Prop) → Prop
structure jh where
 nx : St → Hp → Prop
 rt : VK
 bk : St → Hp → Prop := fun _ _ => False
 ct : St → Hp → Prop := fun _ _ => False
abbrev TS := jh → St → Hp → Prop
def EP (X : Cx) (pins : List (Addr × Obj)) (σ : St) (Q : VK) (u : Value) (s' : Shared) : Prop := ∃ v H', Inv X pins σ H' s' ∧ RelV v u ∧ Q v H'
def TP (X : Cx) (pins : List (Addr × Obj)) (σ : St) (Q : Bool → Hp → Prop) (b : Bool) (s' : Shared) : Prop := ∃ H', Inv X pins σ H' s' ∧ Q b H'
def AP (X : Cx) (pins : List (Addr × Obj)) (σ : St) (Q : List V → Hp → Prop) (us : List Value) (s' : Shared) : Prop := ∃ vs H', Inv X pins σ H' s' ∧ Vals vs us ∧ Q vs H'
def SP (X : Cx) (pins : List (Addr × Obj)) (D : jh) (f : Flow) (s' : Shared) : Prop :=
 match f with
 | .next => ∃ σ' H', Inv X pins σ' H' s' ∧ D.nx σ' H'
 | .brk => ∃ σ' H', Inv X pins σ' H' s' ∧ D.bk σ' H'
 | .cont => ∃ σ' H', Inv X pins σ' H' s' ∧ D.ct σ' H'
 | .ret u => ∃ v σ' H', Inv X pins σ' H' s' ∧ RelV v u ∧ D.rt v H'
def PE (X : Cx) (e : Expr) (t : TE) : Prop :=
 ∀ (pins : List (Addr × Obj)) (s : Shared) (σ : St) (H : Hp) (Q : VK), Inv X pins σ H s → t σ H Q → wpAny (model X.prog X.w) X.A (eval e X.env) (EP X pins σ Q) X.xe s
def PT (X : Cx) (e : Expr) (t : TT) : Prop :=
 ∀ (pins : List (Addr × Obj)) (s : Shared) (σ : St) (H : Hp) (Q : Bool → Hp → Prop), Inv X pins σ H s → t σ H Q → wpAny (model X.prog X.w) X.A (isTrue e X.env (eval e X.env)) (TP X pins σ Q) X.xe s
def PW (X : Cx) (e : Expr) (t : TT) : Prop :=
 ∀ (whole : Sem Value) (pins : List (Addr × Obj)) (s : Shared) (σ : St) (H : Hp) (Q : Bool → Hp → Prop), Inv X pins σ H s → t σ H Q → wpAny (model X.prog X.w) X.A (isTrue e X.env whole) (TP X pins σ Q) X.xe s
theorem PW.pt {X : Cx} {e : Expr} {t : TT} (h : PW X e t) : PT X e t := h _
def PA (X : Cx) (es : List Expr) (t : TA) : Prop :=
 ∀ (pos : Pos) (pins : List (Addr × Obj)) (s : Shared) (σ : St) (H : Hp) (Q : List V → Hp → Prop), Inv X pins σ H s → t σ H Q → wpAny (model X.prog X.w) X.A (spliced (backTo pos (starEach es X.env))) (AP X pins σ Q) X.xe s
def PS (X : Cx) (st : Stmt) (t : TS) : Prop :=
 ∀ (pins : List (Addr × Obj)) (s : Shared) (σ : St) (H : Hp) (D : jh), Inv X pins σ H s → t D σ H → wpAny (model X.prog X.w) X.A (exec st X.env) (SP X pins D) X.xe s
def PSs (X : Cx) (st : List Stmt) (t : TS) : Prop :=
 ∀ (pins : List (Addr × Obj)) (s : Shared) (σ : St) (H : Hp) (D : jh), Inv X pins σ H s → t D σ H → wpAny (model X.prog X.w) X.A (execs st X.env) (SP X pins D) X.xe s
theorem thn {α : Type} {t : Sem α} {Q Q' : α → Shared → Prop} {M : Model} {A : Around} {E : Value → Shared → Prop} {s : Shared} (h : wpAny M A t Q E s) (hQ : ∀ a s, Q a s → Q' a s) : wpAny M A t Q' E s := wpAny_mono h hQ fun _ _ x => x
section
variable {X : Cx}
def pA (i : Nat) : TE := fun σ H Q => ∃ v, σ[i]? = some (some v) ∧ Q v H
def tC (v : V) : TE := fun _ H Q => Q v H
theorem kN {i : Nat} {x : Str} {pos : Pos} (hN : X.N[i]? = some x) (hv : Vis X.env.scope x) (hd : (x == ("__debug__" : Str)) = false := by decide) (hcd : (x == ("__classdict__" : Str)) = false := by decide) : PE X (.Name x pos) (pA i) := by
 intro pins s σ H Q I h
 obtain ⟨v, e, h⟩ := h
 obtain ⟨m, hn, hl⟩ := I.loc
 obtain ⟨u, r, l⟩ := hl i x v hN e hv
 have fin : EP X pins σ Q u s := ⟨v, H, I, r, h⟩
 rcases l with ⟨hk, hm⟩ | ⟨hk, c, hc, hcell⟩
 · exact wpAny_Name (wpAny_loadName_local I.ok.kind hk hn hm fin) hd
 · rcases hk with hk | hk
   · exact wpAny_Name (wpAny_loadName_cell I.ok.kind hk hc hcell fin) hd
   · exact wpAny_Name (wpAny_loadName_free I.ok.kind hk hc hcell fin hcd) hd
theorem tD {i j pos} : PE X (.Constant (.int i) j pos) (tC (.int i)) := fun _ _ _ H _ I h => wpAny_Constant_int ⟨.int i, H, I.tok _, ⟨_, rfl⟩, h⟩
theorem xD {b j pos} : PE X (.Constant (.bool b) j pos) (tC (.bl b)) := fun _ _ _ H _ I h => Constant_bool ⟨.bl b, H, I, rfl, h⟩
theorem tE {j pos} : PE X (.Constant .none j pos) (tC .non) := fun _ _ _ H _ I h => Constant_none ⟨.non, H, I, rfl, h⟩
theorem tG {x j pos} : PE X (.Constant (.str x) j pos) (tC (.str x)) := fun _ _ _ H _ I h => Calls.Constant_str ⟨.str x, H, I.tok _, ⟨_, rfl⟩, h⟩
def Gl (X : Cx) (x : Str) : Prop := X.env.kindOf x = some .globalImplicit
theorem ef {E : Value → Shared → Prop} {pins : List (Addr × Obj)} {s : Shared} {σ : St} {H : Hp} {x : Str} {u : Value} {pos : Pos} {Q : Value → Shared → Prop} (I : Inv X pins σ H s) (hg : Gl X x) (hm : X.mg x = some u) (h : Q u s)
 (hd : (x == ("__debug__" : Str)) = false := by decide) : wpAny (model X.prog X.w) X.A (eval (.Name x pos) X.env) Q E s :=
 Calls.Name_function_global I.ok.kind hg (Calls.loadGlobal_global (by rw [I.ok.glob]; exact I.mod.glob.keeps I.bk) hm h) hd
theorem ji {E : Value → Shared → Prop} {pins : List (Addr × Obj)} {s : Shared} {σ : St} {H : Hp} {x : Str} {u : Value} {pos : Pos} {Q : Value → Shared → Prop} (I : Inv X pins σ H s) (hg : Gl X x) (hm : X.mg x = none) (hv : bootBuiltins x = some u) (h : Q u s)
 (hn : x ≠ "__name__" := by decide) (hd : (x == ("__debug__" : Str)) = false := by decide) : wpAny (model X.prog X.w) X.A (eval (.Name x pos) X.env) Q E s := by
 obtain ⟨mb, h1, h2⟩ := I.mod.blt
 exact Calls.Name_function_global I.ok.kind hg (Calls.loadGlobal_builtin (by rw [I.ok.glob]; exact I.mod.glob.keeps I.bk) hm (by rw [I.ok.blt]; exact h1.keeps I.bk) ((h2 x hn).trans hv) h) hd
theorem iq {x : Str} {v : V} {u : Value} {pos : Pos} (hg : Gl X x) (hm : X.mg x = some u) (r : RelV v u) (hd : (x == ("__debug__" : Str)) = false := by decide) : PE X (.Name x pos) (tC v) :=
 fun _ _ _ H _ I h => ef I hg hm ⟨v, H, I, r, h⟩ hd
theorem kO {x : Str} {v : V} {u : Value} {pos : Pos} (hg : Gl X x) (hm : X.mg x = none) (hv : bootBuiltins x = some u) (r : RelV v u) (hn : x ≠ "__name__" := by decide) (hd : (x == ("__debug__" : Str)) = false := by decide) : PE X (.Name x pos) (tC v) :=
 fun _ _ _ H _ I h => ji I hg hm hv ⟨v, H, I, r, h⟩ hn hd
variable {a b : Expr} {ta tb : TE} {pos : Pos}
def tB (t : TE) : TT := fun σ H Q => t σ H fun x H1 => ∃ c, x = .bl c ∧ Q c H1
theorem tH {e : Expr} {t : TE} (h : PE X e t) (he : ∀ whole, isTrue e X.env whole = (do let v ← whole; standAt e.pos; holding [v] (truthy v)) := by intro _; rfl) : PT X e (tB t) := by
 intro pins s σ H Q I hw
 refine isTrue_plain (thn (h pins s σ H _ I hw) fun v s1 ⟨x, H1, I1, r1, q1⟩ => ?_) (he _)
 obtain ⟨d, rfl, q⟩ := q1
 cases r1
 exact wpAny_truthy_bool ⟨H1, I1, q⟩
variable {tA tB' : TT} {rest : List Expr}
def zD (t u : TT) : TT := fun σ H Q => t σ H fun c H1 => if c = true then u σ H1 Q else Q false H1
def tOr (t u : TT) : TT := fun σ H Q => t σ H fun c H1 => if c = true then Q true H1 else u σ H1 Q
def zE (t : TT) : TT := fun σ H Q => t σ H fun c H1 => Q (!c) H1
theorem qA (ha : PT X a tA) : PW X (.BoolOp .And [a] pos) tA := by
 intro wh pins s σ H Q I h
 refine isTrue_and (thn (ha pins s σ H Q I h) fun c s1 e => ?_)
 cases c with
 | true => exact isTrue_and_nil e
 | false => exact e
theorem tI (ha : PT X a tA) : PW X (.BoolOp .Or [a] pos) tA := by
 intro wh pins s σ H Q I h
 refine isTrue_or (thn (ha pins s σ H Q I h) fun c s1 e => ?_)
 cases c with
 | false => exact isTrue_or_nil e
 | true => exact e
theorem tJ (ha : PT X a tA) (hb : PW X (.BoolOp .And (b :: rest) pos) tB') : PW X (.BoolOp .And (a :: b :: rest) pos) (zD tA tB') := by
 intro wh pins s σ H Q I h
 refine isTrue_and (thn (ha pins s σ H _ I h) fun c s1 ⟨H1, I1, q1⟩ => ?_)
 cases c with
 | true => exact hb wh pins s1 σ H1 Q I1 q1
 | false => exact ⟨H1, I1, q1⟩
theorem xE (ha : PT X a tA) (hb : PW X (.BoolOp .Or (b :: rest) pos) tB') : PW X (.BoolOp .Or (a :: b :: rest) pos) (tOr tA tB') := by
 intro wh pins s σ H Q I h
 refine isTrue_or (thn (ha pins s σ H _ I h) fun c s1 ⟨H1, I1, q1⟩ => ?_)
 cases c with
 | true => exact ⟨H1, I1, q1⟩
 | false => exact hb wh pins s1 σ H1 Q I1 q1
theorem tK (ha : PT X a tA) : PT X (.UnaryOp .Not a pos) (zE tA) := by
 intro pins s σ H Q I h
 exact isTrue_not (ha pins s σ H (fun c H1 => Q (!c) H1) I h)
def xF (ta tb : TE) : TE := fun σ H Q => ta σ H fun x H1 => ∃ c, x = .bl c ∧ if c = true then tb σ H1 Q else Q (.bl false) H1
def zF (ta tb : TE) : TE := fun σ H Q => ta σ H fun x H1 => ∃ c, x = .bl c ∧ if c = true then Q (.bl true) H1 else tb σ H1 Q
def xG (ta : TE) : TE := fun σ H Q => ta σ H fun x H1 => ∃ c, x = .bl c ∧ Q (.bl (!c)) H1
theorem tL {op} {t : TE} (h : PE X a t) : PE X (.BoolOp op [a] pos) t := fun pins s σ H Q I hw => BoolOp_one (h pins s σ H Q I hw)
theorem tM (ha : PE X a ta) (hb : PE X (.BoolOp .And (b :: rest) pos) tb) : PE X (.BoolOp .And (a :: b :: rest) pos) (xF ta tb) := by
 intro pins s σ H Q I h
 refine BoolOp_and (thn (ha pins s σ H _ I h) fun v s1 ⟨x, H1, I1, r1, q1⟩ => ?_)
 obtain ⟨c, rfl, q1⟩ := q1
 cases r1
 refine wpAny_truthy_bool ?_
 cases c with
 | true => exact hb pins s1 σ H1 Q I1 q1
 | false => exact ⟨.bl false, H1, I1, rfl, q1⟩
theorem xH (ha : PE X a ta) (hb : PE X (.BoolOp .Or (b :: rest) pos) tb) : PE X (.BoolOp .Or (a :: b :: rest) pos) (zF ta tb) := by
 intro pins s σ H Q I h
 refine BoolOp_or (thn (ha pins s σ H _ I h) fun v s1 ⟨x, H1, I1, r1, q1⟩ => ?_)
 obtain ⟨c, rfl, q1⟩ := q1
 cases r1
 refine wpAny_truthy_bool ?_
 cases c with
 | false => exact hb pins s1 σ H1 Q I1 q1
 | true => exact ⟨.bl true, H1, I1, rfl, q1⟩
theorem tN (ha : PE X a ta) : PE X (.UnaryOp .Not a pos) (xG ta) := by
 intro pins s σ H Q I h
 refine UnaryOp_ (thn (ha pins s σ H _ I h) fun v s1 ⟨x, H1, I1, r1, q1⟩ => ?_)
 obtain ⟨c, rfl, q1⟩ := q1
 cases r1
 exact not_of (wpAny_truthy_bool ⟨.bl (!c), H1, I1, rfl, q1⟩)
end
def SqL (K : PySem.W.Frag) (H : Hp) (a : Addr) (xs : List V) : Prop :=
 Rd H a (.lst xs) ∨
  ∃ (o : Obj) (its : Array Value) (n : Nat), K.lookup a = some o ∧ o.cls = .type "list" ∧ o.dict = none ∧ o.data = .seq its n ∧ its.size ≤ sizeLine ∧ Vals xs its.toList
def SqT (K : PySem.W.Frag) (H : Hp) (a : Addr) (xs : List V) : Prop :=
 Rd H a (.tup xs) ∨
  ∃ (o : Obj) (its : Array Value) (n : Nat), K.lookup a = some o ∧ o.cls = .type "tuple" ∧ o.data = .seq its n ∧ its.size ≤ sizeLine ∧ Vals xs its.toList
def zG : Value → Option V
 | .none => some .non
 | .bool b => some (.bl b)
 | .int i _ => some (.int i)
 | .str x _ => some (.str x)
 | .bytes b _ => some (.byt b)
 | .float b _ => some (.flt b)
 | .ref a => some (.ref a)
 | .type n => some (.ty n)
 | _ => none
theorem RelV.abs {x : V} {u : Value} (r : RelV x u) : zG u = some x := by
 cases x with
 | non => cases r; rfl
 | bl _ => cases r; rfl
 | int _ => obtain ⟨t, rfl⟩ := r; rfl
 | str _ => obtain ⟨t, rfl⟩ := r; rfl
 | byt _ => obtain ⟨t, rfl⟩ := r; rfl
 | flt _ => obtain ⟨t, rfl⟩ := r; rfl
 | ref _ => cases r; rfl
 | ty _ => cases r; rfl
theorem RelV.inj {x y : V} {u : Value} (r : RelV x u) (q : RelV y u) : x = y := Option.some.inj (r.abs.symm.trans q.abs)
theorem Vals.inj : ∀ {xs ys : List V} {us : List Value}, Vals xs us → Vals ys us → xs = ys
 | _, _, _, .nil, .nil => rfl
 | _, _, _, .cons r t, .cons r' t' => by rw [r.inj r', Vals.inj t t']
section
variable {X : Cx} {pins : List (Addr × Obj)} {σ : St} {H : Hp} {s : Shared} {a : Addr} {xs ys : List V}
theorem SqL.of {K : PySem.W.Frag} (h : H a = some (.lst xs)) : SqL K H a xs := .inl (.inl h)
theorem SqT.of {K : PySem.W.Frag} (h : H a = some (.tup xs)) : SqT K H a xs := .inl (.inl h)
theorem Inv.list (I : Inv X pins σ H s) (h : SqL X.K H a xs) : ∃ its : List Value, Vals xs its ∧ PlainL s.heap a its.toArray ∧ xs.length ≤ sizeLine := by
 rcases h with h | ⟨o, its, n, hk, hc, hd, hs, hz, r⟩
 · obtain ⟨z, its, n, r, e⟩ := h.ok I.hok
   exact ⟨its, r, ⟨_, n, e, rfl, rfl, rfl⟩, z⟩
 · refine ⟨its.toList, r, ⟨o, n, I.kIn a o hk, hc, hd, by simpa using hs⟩, ?_⟩
   have e := r.length
   simp only [Array.length_toList] at e
   omega
theorem Inv.tuple (I : Inv X pins σ H s) (h : SqT X.K H a xs) : ∃ its : List Value, Vals xs its ∧ IsTup s.heap a its.toArray ∧ xs.length ≤ sizeLine := by
 rcases h with h | ⟨o, its, n, hk, hc, hs, hz, r⟩
 · obtain ⟨z, its, r, p⟩ := h.ok I.hok
   exact ⟨its, r, p, z⟩
 · refine ⟨its.toList, r, ⟨o, I.kIn a o hk, hc, n, by simpa using hs⟩, ?_⟩
   have e := r.length
   simp only [Array.length_toList] at e
   omega
theorem Inv.list_inj (I : Inv X pins σ H s) (h : SqL X.K H a xs) (h' : SqL X.K H a ys) : xs = ys := by
 obtain ⟨its, r, ⟨o, n, e, _, _, d⟩, _⟩ := I.list h
 obtain ⟨its', r', ⟨o', n', e', _, _, d'⟩, _⟩ := I.list h'
 rw [e] at e'; cases e'
 rw [d] at d'
 injection d' with d1 _
 have : its = its' := by simpa using congrArg Array.toList d1
 subst this
 exact r.inj r'
theorem Inv.tuple_inj (I : Inv X pins σ H s) (h : SqT X.K H a xs) (h' : SqT X.K H a ys) : xs = ys := by
 obtain ⟨its, r, ⟨o, e, _, n, d⟩, _⟩ := I.tuple h
 obtain ⟨its', r', ⟨o', e', _, n', d'⟩, _⟩ := I.tuple h'
 rw [e] at e'; cases e'
 rw [d] at d'
 injection d' with d1 _
 have : its = its' := by simpa using congrArg Array.toList d1
 subst this
 exact r.inj r'
end
abbrev Cx.wish (X : Cx) (E : Value → Shared → Prop) : Cx := { X with xe := E }
abbrev Cx.nox (X : Cx) : Cx := X.wish fun _ _ => False
theorem Cx.Ok.wish {X : Cx} (ok : X.Ok) (E : Value → Shared → Prop) : (X.wish E).Ok :=
 ⟨ok.mod, ok.kind, ok.glob, ok.blt, ok.above, ok.inj, ok.has, ok.cab, ok.hd, ok.frames, ok.stk, ok.exf, ok.bs, ok.bsz, ok.noex, ok.exfs, ok.funs, ok.frf⟩
theorem Cx.Ok.unwish {X : Cx} {E : Value → Shared → Prop} (ok : (X.wish E).Ok) : X.Ok :=
 ⟨ok.mod, ok.kind, ok.glob, ok.blt, ok.above, ok.inj, ok.has, ok.cab, ok.hd, ok.frames, ok.stk, ok.exf, ok.bs, ok.bsz, ok.noex, ok.exfs, ok.funs, ok.frf⟩
section
variable {X : Cx} {pins : List (Addr × Obj)} {σ : St} {H : Hp} {s : Shared} {E : Value → Shared → Prop}
theorem Inv.wish (I : Inv X pins σ H s) (E : Value → Shared → Prop) : Inv (X.wish E) pins σ H s := ⟨I.ok.wish E, I.os, I.bare, I.base, I.loc, I.cell, I.free, I.freeC, I.pin, I.hok, I.len⟩
theorem Inv.unwish (I : Inv (X.wish E) pins σ H s) : Inv X pins σ H s := ⟨I.ok.unwish, I.os, I.bare, I.base, I.loc, I.cell, I.free, I.freeC, I.pin, I.hok, I.len⟩
theorem SP.unwish {D : jh} {f : Flow} {s' : Shared} (h : SP (X.wish E) pins D f s') : SP X pins D f s' := by
 cases f with
 | next => obtain ⟨σ', H', I, q⟩ := h; exact ⟨σ', H', I.unwish, q⟩
 | brk => obtain ⟨σ', H', I, q⟩ := h; exact ⟨σ', H', I.unwish, q⟩
 | cont => obtain ⟨σ', H', I, q⟩ := h; exact ⟨σ', H', I.unwish, q⟩
 | ret u => obtain ⟨v, σ', H', I, r, q⟩ := h; exact ⟨v, σ', H', I.unwish, r, q⟩
theorem PE.nox {e : Expr} {t : TE} (h : PE X.nox e t) : PE X e t := fun pins s σ H Q I hw =>
 wpAny_mono (h pins s σ H Q (I.wish _) hw) (fun _ _ ⟨v, H', I', r, q⟩ => ⟨v, H', I'.unwish, r, q⟩) fun _ _ z => False.elim z
theorem PT.nox {e : Expr} {t : TT} (h : PT X.nox e t) : PT X e t := fun pins s σ H Q I hw =>
 wpAny_mono (h pins s σ H Q (I.wish _) hw) (fun _ _ ⟨H', I', q⟩ => ⟨H', I'.unwish, q⟩) fun _ _ z => False.elim z
theorem PSs.nox {st : List Stmt} {t : TS} (h : PSs X.nox st t) : PSs X st t := fun pins s σ H D I hw =>
 wpAny_mono (h pins s σ H D (I.wish _) hw) (fun _ _ q => q.unwish) fun _ _ z => False.elim z
end
section
variable {X : Cx} {st : Stmt} {rest : List Stmt} {t u : TS} {e : Expr} {te : TE} {pos : Pos}
def xI : TS := fun D σ H => D.nx σ H
def zH (t u : TS) : TS := fun D σ H => t { D with nx := u D } σ H
theorem iu : PSs X [] xI := fun _ _ σ H _ I h => wpAny_execs_nil ⟨σ, H, I, h⟩
theorem bV (h1 : PS X st t) (h2 : PSs X rest u) : PSs X (st :: rest) (zH t u) := by
 intro pins s σ H D I h
 refine wpAny_execs_cons (thn (h1 pins s σ H { D with nx := u D } I h) fun f s1 q => ?_)
 cases f with
 | next =>
  obtain ⟨σ', H', I', q⟩ := q
  exact h2 pins s1 σ' H' D I' q
 | ret v => exact q
 | brk => exact q
 | cont => exact q
theorem fJ (h1 : PS X st t) : PSs X [st] t := by
 intro pins s σ H D I h
 refine wpAny_execs_cons (thn (h1 pins s σ H D I h) fun f s1 q => ?_)
 cases f with
 | next => exact wpAny_execs_nil q
 | ret v => exact q
 | brk => exact q
 | cont => exact q
theorem Inv.quiet {pins : List (Addr × Obj)} {σ : St} {H : Hp} {s : Shared} (I : Inv X pins σ H s) : interactive X.env = false := by simp [interactive, I.ok.kind]
def xJ (te : TE) : TS := fun D σ H => te σ H fun _ H1 => D.nx σ H1
theorem qB (he : PE X e te) (hs : swapsWith e none pos.line X.env = pure false := by rfl) : PS X (.Expr e pos) (xJ te) := by
 intro pins s σ H D I h
 exact wpAny_Expr_any (thn (he pins s σ H _ I h) fun v s1 ⟨x, H1, I1, r1, q1⟩ => ⟨σ, H1, I1, q1⟩) I.quiet hs
def zI (te : TE) : TS := fun D σ H => te σ H D.rt
theorem kP (he : PE X e te) : PS X (.Return (some e) pos) (zI te) := by
 intro pins s σ H D I h
 exact wpAny_Return_some (thn (he pins s σ H _ I h) fun v s1 ⟨x, H1, I1, r1, q1⟩ => ⟨x, σ, H1, I1, r1, q1⟩)
def zJ (c : TT) (t u : TS) : TS := fun D σ H => c σ H fun b H1 => if b = true then t D σ H1 else u D σ H1
theorem qC {c : Expr} {a b : List Stmt} {tc : TT} (hc : PT X c tc) (ha : PSs X a t) (hb : PSs X b u) : PS X (.If c a b pos) (zJ tc t u) := by
 intro pins s σ H D I h
 refine wpAny_If (thn (hc pins s σ H _ I h) fun d s1 ⟨H1, I1, q1⟩ => ?_)
 cases d with
 | true => exact ha pins s1 σ H1 D I1 q1
 | false => exact hb pins s1 σ H1 D I1 q1
end
abbrev TG := V → St → Hp → (St → Hp → Prop) → Prop
abbrev TGs := List V → St → Hp → (St → Hp → Prop) → Prop
def PG (X : Cx) (target : Expr) (t : TG) : Prop :=
 ∀ (pins : List (Addr × Obj)) (s : Shared) (σ : St) (H : Hp) (v : V) (u : Value) (Q : St → Hp → Prop), Inv X pins σ H s → RelV v u → t v σ H Q →
  wpAny (model X.prog X.w) X.A (assign target X.env u) (fun _ s' => ∃ σ' H', Inv X pins σ' H' s' ∧ Q σ' H') X.xe s
def PGs (X : Cx) (ts : List Expr) (t : TGs) : Prop :=
 ∀ (pins : List (Addr × Obj)) (s : Shared) (σ : St) (H : Hp) (vs : List V) (us : List Value) (Q : St → Hp → Prop), Inv X pins σ H s → Vals vs us → t vs σ H Q →
  wpAny (model X.prog X.w) X.A (assignInOrder ((assignEach ts X.env).map (·.2)) us) (fun _ s' => ∃ σ' H', Inv X pins σ' H' s' ∧ Q σ' H') X.xe s
abbrev xK := V → V → V → Hp → (Hp → Prop) → Prop
def zb (X : Cx) (t : xK) : Prop :=
 ∀ (pins : List (Addr × Obj)) (s : Shared) (σ : St) (H : Hp) (o i v : V) (ov iv u : Value) (Q : Hp → Prop), Inv X pins σ H s → RelV o ov → RelV i iv → RelV v u → t o i v H Q →
  wpAny (model X.prog X.w) X.A (setItem ov iv u) (fun _ s' => ∃ H', Inv X pins σ H' s' ∧ Q H') X.xe s
section
variable {X : Cx} {pos : Pos}
def j8 (i : Nat) : TG := fun v σ H Q => Q (σ.set i (some v)) H
theorem bW {i : Nat} {x : Str} (hN : X.N.Nodup) (hi : X.N[i]? = some x) (hx : Loc X.env.scope x) (hf : X.fn x = true ∨ X.env.scope.names.lookup x = some .local := by first | exact .inl rfl | exact .inr rfl | assumption) : PG X (.Name x pos) (j8 i) := by
 intro pins s σ H v u Q I r h
 exact wpAny_assign_Name (dH I hN hi hx r (fun s' I' => ⟨_, H, I', h⟩) hf)
def zK : TGs := fun vs σ H Q => vs = [] ∧ Q σ H
def xL (t : TG) (u : TGs) : TGs := fun vs σ H Q => ∃ v r, vs = v :: r ∧ t v σ H fun σ' H' => u r σ' H' Q
theorem qD : PGs X [] zK := by
 intro pins s σ H vs us Q I r h
 obtain ⟨e, h⟩ := h
 subst e
 cases r
 exact assignInOrder_nil ⟨σ, H, I, h⟩
theorem jj {e : Expr} {es : List Expr} {t : TG} {u : TGs} (h1 : PG X e t) (h2 : PGs X es u)
 (hs : (assignEach (e :: es) X.env).map (·.2) = assign e X.env :: (assignEach es X.env).map (·.2) := by rfl) : PGs X (e :: es) (xL t u) := by
 intro pins s σ H vs us Q I r h
 obtain ⟨v, vr, e1, h⟩ := h
 subst e1
 cases r with
 | cons r rr =>
  rw [hs]
  refine assignInOrder_cons (thn (h1 pins s σ H _ _ _ I r h) fun _ s1 ⟨σ1, H1, I1, q1⟩ => ?_)
  exact h2 pins s1 σ1 H1 _ _ Q I1 rr q1
def zL (K : PySem.W.Frag) (n : Nat) (t : TGs) : TG := fun v σ H Q => ∃ a xs, v = .ref a ∧ SqT K H a xs ∧ xs.length = n ∧ t xs σ H Q
theorem tQ {es : List Expr} {k : Nat} {t : TGs} {n : Nat} (hc : X.calm = true) (h : PGs X es t)
 (hn : (assignEach es X.env).length = n := by rfl) (hst : (assignEach es X.env).findIdx? (·.1) = none := by rfl) : PG X (.Tuple es k pos) (zL X.K n t) := by
 intro pins s σ H v u Q I r hw
 obtain ⟨a, xs, e1, hq, hl, hw⟩ := hw
 subst e1
 cases r
 obtain ⟨its, rv, ht, hz⟩ := I.tuple hq
 refine assign_Tuple_tuple (I.ok.hd hc) ht (by simp [hn, ← hl, rv.length]) hst fun h' hx => ?_
 have I1 : Inv X pins σ H { s with heap := h' } := I.kept (t' := s.toks) fun b o e => hx b o (Nat.ne_of_lt (Heap.lt_size e)) e
 exact h pins _ σ H xs _ Q I1 (by simpa using rv) hw
def zM (to ti : TE) (t : xK) : TG := fun v σ H Q => to σ H fun o H1 => ti σ H1 fun i H2 => t o i v H2 fun H3 => Q σ H3
theorem tU {o i : Expr} {to ti : TE} {t : xK} (ho : PE X o to) (hi : PE X i ti) (hs : zb X t)
 (ha : ∀ v, assign (.Subscript o i pos) X.env v = (do
   let ov ← holding [v] (eval o X.env)
   let iv ← holding [v, ov] (eval i X.env)
   standAt pos
   holding [v, ov, iv] (setItem ov iv v)
   release [v, ov, iv] []) := by intro _; rfl) : PG X (.Subscript o i pos) (zM to ti t) := by
 intro pins s σ H v u Q I r h
 rw [ha]
 refine wpAny_bind (wpAny_holding (thn (ho pins s σ H _ I h) fun ov s1 ⟨x, H1, I1, r1, q1⟩ => ?_))
 refine wpAny_bind (wpAny_holding (thn (hi pins s1 σ H1 _ I1 q1) fun iv s2 ⟨y, H2, I2, r2, q2⟩ => ?_))
 refine wpAny_bind (wpAny_standAt (wpAny_bind (wpAny_holding (thn (hs pins s2 σ H2 x y v ov iv u _ I2 r1 r2 r q2) fun _ s3 ⟨H3, I3, q3⟩ => ?_))))
 exact wpAny_release ⟨σ, H3, I3, q3⟩
def zc (te : TE) (g : TG) : TS := fun D σ H => te σ H fun x H1 => g x σ H1 D.nx
theorem tW {tg e : Expr} {te : TE} {g : TG} (he : PE X e te) (hg : PG X tg g) (hs : swapsWithSole [tg] e pos.line X.env = pure false := by rfl) (hw : swappedStores [tg] e X.env = pure none := by rfl)
 (h1 : (assignEach [tg] X.env).map (·.2) = [assign tg X.env] := by rfl) : PS X (.Assign [tg] e pos) (zc te g) := by
 intro pins s σ H D I h
 refine wpAny_Assign_stores (thn (he pins s σ H _ I h) fun v s1 ⟨x, H1, I1, r1, q1⟩ => ?_) hs hw
 rw [h1]
 exact thn (hg pins s1 σ H1 x v _ I1 r1 q1) fun _ s2 q => q
theorem eW {i : Nat} {x : Str} {e : Expr} {te : TE} {pos' : Pos} (hN : X.N.Nodup) (hi : X.N[i]? = some x) (hx : Loc X.env.scope x) (he : PE X e te) (hs : swapsWith e (some (.Name x pos')) pos.line X.env = pure false := by rfl) (hf : X.fn x = true ∨ X.env.scope.names.lookup x = some .local := by first | exact .inl rfl | exact .inr rfl | assumption) :
 PS X (.Assign [.Name x pos'] e pos) (zc te (j8 i)) := by
 intro pins s σ H D I h
 refine wpAny_Assign_Name (thn (he pins s σ H _ I h) fun v s1 ⟨y, H1, I1, r1, q1⟩ => ?_) hs
 exact dH I1 hN hi hx r1 (fun s2 I2 => ⟨_, H1, I2, q1⟩) hf
end
section
variable {X : Cx} {pos : Pos}
end
structure It where
 go : Nat → Hp → Prop
 yld : Nat → Hp → V → Hp → Prop
 stop : Nat → Hp → Prop
def jk (X : Cx) (pins : List (Addr × Obj)) (H : Hp) (b : Addr) : Prop :=
 H b = none ∧ b ≠ X.env.locals ∧ b ∉ X.fs ∧ (b ∈ X.ex ∨ X.s₀.heap.objs.size ≤ b) ∧ (∀ x c, X.env.cells.lookup x = some c → c ≠ b) ∧ ∀ p ∈ X.pn ++ pins, p.1 ≠ b
theorem Inv.fpOk {X : Cx} {pins : List (Addr × Obj)} {σ : St} {H H' : Hp} {s : Shared} {b : Addr} (I : Inv X pins σ H s) (hb : s.heap.objs.size ≤ b) (hn : H' b = none) : jk X pins H' b := by
 refine ⟨hn, Nat.ne_of_gt (Nat.lt_of_lt_of_le I.lt hb), I.nofs hb, .inr (Nat.le_trans I.sz hb), fun x c e z => ?_, fun p hp z => ?_⟩
 · obtain ⟨v, q⟩ := I.cell x c e
   exact absurd (Nat.lt_of_lt_of_le q.lt (by rw [z]; exact hb)) (Nat.lt_irrefl _)
 · exact absurd (Nat.lt_of_lt_of_le (Heap.lt_size (I.pin p hp).1) (by rw [z]; exact hb)) (Nat.lt_irrefl _)
structure pB (P : Program) (w : World) (K : PySem.W.Frag) (tg : Expr) (J : It) (fp : List Addr) (it : Addr) (tn : Nat → Heap → Prop) : Prop where
 mem : it ∈ fp
 obj : ∀ i h, tn i h → ∀ b ∈ fp, ∃ o, h.get? b = some o ∧ ∀ v, o.data ≠ .cell v
 keep : ∀ i h h', tn i h → (∀ b ∈ fp, ∀ o, h.get? b = some o → h'.get? b = some o) → tn i h'
 item : ∀ (X : Cx), X.prog = P → X.w = w → X.K = K → X.calm = true → ∀ (i : Nat) (pins : List (Addr × Obj)) (s : Shared) (σ : St) (H : Hp) (E : Value → Shared → Prop), Inv X pins σ H s → (∀ b ∈ fp, jk X pins H b) → tn i s.heap → J.go i H →
  wpAny (model P w) X.A (pyNext (.ref it)) (fun r s1 => ∃ u, r = some u ∧
   wpAny (model P w) X.A (letOwnedTupleGo tg (.ref it) u) (fun _ s2 => ∃ x H', Inv X pins σ H' s2 ∧ RelV x u ∧ J.yld i H x H' ∧ tn (i + 1) s2.heap ∧ ∀ b ∈ fp, H' b = none) E s1) E s
 done : ∀ (X : Cx), X.prog = P → X.w = w → X.K = K → X.calm = true → ∀ (i : Nat) (pins : List (Addr × Obj)) (s : Shared) (σ : St) (H : Hp) (E : Value → Shared → Prop), Inv X pins σ H s → (∀ b ∈ fp, jk X pins H b) → tn i s.heap → J.stop i H →
  wpAny (model P w) X.A (pyNext (.ref it)) (fun r s1 => r = none ∧ Inv X pins σ H s1) E s
 self : ∀ (A : Around) (i : Nat) (s : Shared) (Q : Value → Shared → Prop) (E : Value → Shared → Prop), tn i s.heap → Q (.ref it) s → wpAny (model P w) A (pyIter (.ref it)) Q E s
abbrev TI := St → Hp → (It → Hp → Prop) → Prop
def PIE (X : Cx) (pins : List (Addr × Obj)) (σ : St) (tg : Expr) (R : It → Hp → Prop) (itv : Value) (s2 : Shared) : Prop :=
 ∃ (it : Addr) (fp : List Addr) (tn : Nat → Heap → Prop) (J : It) (H' : Hp), itv = .ref it ∧ Inv X pins σ H' s2 ∧ pB X.prog X.w X.K tg J fp it tn ∧ tn 0 s2.heap ∧ (∀ b ∈ fp, jk X pins H' b) ∧ R J H'
def PI (X : Cx) (tg iter : Expr) (wi : TI) : Prop :=
 ∀ (pins : List (Addr × Obj)) (s : Shared) (σ : St) (H : Hp) (R : It → Hp → Prop), Inv X pins σ H s → wi σ H R →
  wpAny (model X.prog X.w) X.A (eval iter X.env) (fun v s1 => wpAny (model X.prog X.w) X.A (pyIter v) (PIE X pins σ tg R) X.xe s1) X.xe s
theorem nF {M : Model} {A : Around} {E : Value → Shared → Prop} {s : Shared} {tg : Expr} {it : Addr} {u : Value} {o : Obj} {n : String} {vs : Array Value} {Q : Unit → Shared → Prop} (ho : s.heap.get? it = some o) (hc : o.cls = .type n) (hd : o.data = .fields vs)
 (hn : ["enumerate", "zip", "dict_itemiterator", "dict_reverseitemiterator", "odict_iterator", "itertools.zip_longest", "itertools.pairwise"].contains n = false) (hQ : Q () s) : wpAny M A (letOwnedTupleGo tg (.ref it) u) Q E s := by
 unfold letOwnedTupleGo
 cases tg <;> first
  | exact wpAny_pure hQ
  | (cases u <;> first
      | exact wpAny_pure hQ
      | (refine wpAny_bind (wpAny_load ho ?_)
         rw [hc, hd]
         show wpAny M A (if (["enumerate", "zip", "dict_itemiterator", "dict_reverseitemiterator", "odict_iterator", "itertools.zip_longest", "itertools.pairwise"].contains n && vs[0]? == some (rawInt _)) = true then _ else _) Q E s
         rw [if_neg (by intro h; rw [hn, Bool.false_and] at h; cases h)]
         exact wpAny_pure hQ))
def Itl (K : PySem.W.Frag) (a : Addr) : It :=
 ⟨fun i H => ∃ xs x, SqL K H a xs ∧ xs[i]? = some x, fun i H x H' => H' = H ∧ ∀ xs, SqL K H a xs → xs[i]? = some x, fun i H => ∃ xs, SqL K H a xs ∧ xs.length ≤ i⟩
def Itt (K : PySem.W.Frag) (a : Addr) : It :=
 ⟨fun i H => ∃ xs x, SqT K H a xs ∧ xs[i]? = some x, fun i H x H' => H' = H ∧ ∀ xs, SqT K H a xs → xs[i]? = some x, fun i H => ∃ xs, SqT K H a xs ∧ xs.length ≤ i⟩
def Itr (lo : Int) (n : Nat) : It := ⟨fun i _ => i < n, fun i H x H' => H' = H ∧ x = .int (lo + i), fun i _ => n ≤ i⟩
theorem gz {P : Program} {w : World} {K : PySem.W.Frag} {tg : Expr} (a it : Addr) : pB P w K tg (Itl K a) [it] it (fun i h => h.IsListIter it a i) where
 mem := by simp
 obj := fun i h st b hb => by
  have e : b = it := by simpa using hb
  subst e
  obtain ⟨o, e, c, d⟩ := st
  exact ⟨o, e, fun v z => by rw [d] at z; cases z⟩
 keep := fun i h h' st k => st.at fun o e => k it (by simp) o e
 item := by
  intro X hP hw hK hc i pins s σ H E I hf st hg
  subst hP hw hK
  obtain ⟨xs, x, hq, hx⟩ := hg
  obtain ⟨its, rv, p, hz⟩ := I.list hq
  obtain ⟨u, hu, ru⟩ := rv.get hx
  obtain ⟨f0, f1, f2, f3, f4, f5⟩ := hf it (by simp)
  refine wpAny_pyNext_list_item st p.isList (x := u) (by simpa using hu) fun h' st' sb => ?_
  have I1 : Inv X pins σ H { s with heap := h' } := I.turned (t' := s.toks) (fun b o hb e => (sb.2 b hb).trans e) f0 f1 f3 f4 f5
  obtain ⟨o, e, c, d⟩ := id st'
  exact ⟨u, rfl, nF (s := { s with heap := h' }) e c d (by decide) ⟨x, H, I1, ru, ⟨rfl, fun ys hy => by rw [I.list_inj hy hq]; exact hx⟩, st', fun b hb => (hf b hb).1⟩⟩
 done := by
  intro X hP hw hK hc i pins s σ H E I hf st hg
  subst hP hw hK
  obtain ⟨xs, hq, hx⟩ := hg
  obtain ⟨its, rv, p, hz⟩ := I.list hq
  obtain ⟨f0, f1, f2, f3, f4, f5⟩ := hf it (by simp)
  have hl := rv.length
  exact wpAny_pyNext_list_end (I.ok.hd hc) st p.isList (by simp; omega) fun h' eb => ⟨rfl, I.turned (t' := s.toks) (fun b o hb e => eb b o hb e) f0 f1 f3 f4 f5⟩
 self := fun _ _ _ _ _ st h => wpAny_pyIter_listiter st h
theorem eX {P : Program} {w : World} {K : PySem.W.Frag} {tg : Expr} (a it : Addr) : pB P w K tg (Itt K a) [it] it (fun i h => h.IsTupleIter it a i) where
 mem := by simp
 obj := fun i h st b hb => by
  have e : b = it := by simpa using hb
  subst e
  obtain ⟨o, e, c, d⟩ := st
  exact ⟨o, e, fun v z => by rw [d] at z; cases z⟩
 keep := fun i h h' st k => st.at fun o e => k it (by simp) o e
 item := by
  intro X hP hw hK hc i pins s σ H E I hf st hg
  subst hP hw hK
  obtain ⟨xs, x, hq, hx⟩ := hg
  obtain ⟨its, rv, p, hz⟩ := I.tuple hq
  obtain ⟨u, hu, ru⟩ := rv.get hx
  obtain ⟨f0, f1, f2, f3, f4, f5⟩ := hf it (by simp)
  refine wpAny_pyNext_tuple_item st (show s.heap.IsTuple a its.toArray from p) (x := u) (by simpa using hu) fun h' st' sb => ?_
  have I1 : Inv X pins σ H { s with heap := h' } := I.turned (t' := s.toks) (fun b o hb e => (sb.2 b hb).trans e) f0 f1 f3 f4 f5
  obtain ⟨o, e, c, d⟩ := id st'
  exact ⟨u, rfl, nF (s := { s with heap := h' }) e c d (by decide) ⟨x, H, I1, ru, ⟨rfl, fun ys hy => by rw [I.tuple_inj hy hq]; exact hx⟩, st', fun b hb => (hf b hb).1⟩⟩
 done := by
  intro X hP hw hK hc i pins s σ H E I hf st hg
  subst hP hw hK
  obtain ⟨xs, hq, hx⟩ := hg
  obtain ⟨its, rv, p, hz⟩ := I.tuple hq
  obtain ⟨f0, f1, f2, f3, f4, f5⟩ := hf it (by simp)
  have hl := rv.length
  exact wpAny_pyNext_tuple_end (I.ok.hd hc) st (show s.heap.IsTuple a its.toArray from p) (by simp; omega) fun h' eb => ⟨rfl, I.turned (t' := s.toks) (fun b o hb e => eb b o hb e) f0 f1 f3 f4 f5⟩
 self := fun _ _ _ _ _ st h => wpAny_pyIter_tupleiter st h
theorem j9 {P : Program} {w : World} {K : PySem.W.Frag} {tg : Expr} (it : Addr) (lo : Int) (n : Nat) : pB P w K tg (Itr lo n) [it] it (fun i h => IsRangeIter h it (lo + (i : Nat) * 1) ((n : Int) - (i : Nat)) 1) where
 mem := by simp
 obj := fun i h st b hb => by
  have e : b = it := by simpa using hb
  subst e
  exact ⟨_, st, fun v z => by
   have z' : Data.fields _ = Data.cell v := z
   cases z'⟩
 keep := fun i h h' st k => k it (by simp) _ st
 item := by
  intro X hP hw hK hc i pins s σ H E I hf st hg
  subst hP hw hK
  obtain ⟨f0, f1, f2, f3, f4, f5⟩ := hf it (by simp)
  have W := Walks.range (prog := X.prog) (w := X.w) (I.ok.hd hc) it lo 1 n
  refine W.item i s _ _ hg st fun v h' tk hv st' kk => ?_
  obtain ⟨t, rfl⟩ := hv
  have I1 : Inv X pins σ H { s with heap := h', toks := tk } := I.turned (fun b o hb e => kk b o (by simpa using hb) e) f0 f1 f3 f4 f5
  refine ⟨_, rfl, nF (s := { s with heap := h', toks := tk }) (n := "range_iterator") st' rfl rfl (by decide) ⟨.int (lo + i), H, I1, ⟨t, ?_⟩, ⟨rfl, rfl⟩, st', fun b hb => (hf b hb).1⟩⟩
  rw [Int.mul_one]
 done := by
  intro X hP hw hK hc i pins s σ H E I hf st hg
  subst hP hw hK
  obtain ⟨f0, f1, f2, f3, f4, f5⟩ := hf it (by simp)
  exact wpAny_pyNext_range_end (I.ok.hd hc) st (by have : n ≤ i := hg; omega) fun h' eb => ⟨rfl, I.turned (t' := s.toks) (fun b o hb e => eb b o hb e) f0 f1 f3 f4 f5⟩
 self := fun _ _ _ _ _ st h => wpAny_pyIter_rangeiter st h
section
variable {X : Cx} {tg : Expr}
def xM (K : PySem.W.Frag) (tl : TE) : TI := fun σ H R => tl σ H fun x H1 => ∃ a, x = .ref a ∧ (∃ xs, SqL K H1 a xs) ∧ R (Itl K a) H1
def zN (K : PySem.W.Frag) (tl : TE) : TI := fun σ H R => tl σ H fun x H1 => ∃ a, x = .ref a ∧ (∃ xs, SqT K H1 a xs) ∧ R (Itt K a) H1
theorem qE {l : Expr} {tl : TE} (hl : PE X l tl) : PI X tg l (xM X.K tl) := by
 intro pins s σ H R I h
 refine thn (hl pins s σ H _ I h) fun v s1 ⟨x, H1, I1, r1, q1⟩ => ?_
 obtain ⟨a, e, ⟨xs, hq⟩, q⟩ := q1
 subst e
 cases r1
 obtain ⟨its, rv, p, hz⟩ := I1.list hq
 refine wpAny_pyIter_list p.isList ?_
 refine ⟨s1.heap.objs.size, [s1.heap.objs.size], _, _, H1, rfl, I1.kept (t' := s1.toks) fun b o e => Heap.get?_push_of_some _ e, gz a _, ⟨_, Heap.get?_push_size _ rfl, rfl, rfl⟩, fun b hb => ?_, q⟩
 have e : b = s1.heap.objs.size := by simpa using hb
 subst e
 exact I1.fpOk (Nat.le_refl _) (I1.hok.fresh (Nat.le_refl _))
theorem tX {l : Expr} {tl : TE} (hl : PE X l tl) : PI X tg l (zN X.K tl) := by
 intro pins s σ H R I h
 refine thn (hl pins s σ H _ I h) fun v s1 ⟨x, H1, I1, r1, q1⟩ => ?_
 obtain ⟨a, e, ⟨xs, hq⟩, q⟩ := q1
 subst e
 cases r1
 obtain ⟨its, rv, p, hz⟩ := I1.tuple hq
 refine wpAny_pyIter_tuple (show s1.heap.IsTuple a its.toArray from p) ?_
 refine ⟨s1.heap.objs.size, [s1.heap.objs.size], _, _, H1, rfl, I1.kept (t' := s1.toks) fun b o e => Heap.get?_push_of_some _ e, eX a _, ⟨_, Heap.get?_push_size _ rfl, rfl, rfl⟩, fun b hb => ?_, q⟩
 have e : b = s1.heap.objs.size := by simpa using hb
 subst e
 exact I1.fpOk (Nat.le_refl _) (I1.hok.fresh (Nat.le_refl _))
theorem nG {pins : List (Addr × Obj)} {σ : St} {H : Hp} {s : Shared} {R : It → Hp → Prop} {E : Value → Shared → Prop} {lo hi : Int} {t u v : Tok} {tk : Nat} (I : Inv X pins σ H s) (h1 : -(2 ^ 62) ≤ lo) (h2 : lo < 2 ^ 62) (h3 : -(2 ^ 62) ≤ hi) (h4 : hi < 2 ^ 62)
 (q : R (Itr lo (hi - lo).toNat) H) : wpAny (model X.prog X.w) X.A (pyIter (.ref s.heap.objs.size)) (PIE X pins σ tg R) E { s with heap := s.heap.push { cls := .type "range", data := .fields #[.int lo t, .int hi u, .int 1 v] }, toks := tk } := by
 refine wpAny_pyIter_range (IsRange.new ..) (small_one h1 h2 h3 h4) ?_
 have I1 : Inv X pins σ H { s with heap := s.heap.push { cls := .type "range", data := .fields #[.int lo t, .int hi u, .int 1 v] }, toks := tk } := I.kept fun b o e => Heap.get?_push_of_some _ e
 refine ⟨(s.heap.push { cls := .type "range", data := .fields #[.int lo t, .int hi u, .int 1 v] }).objs.size, [(s.heap.push { cls := .type "range", data := .fields #[.int lo t, .int hi u, .int 1 v] }).objs.size], _, _, H, rfl,
  I1.kept (t' := tk) fun b o e => Heap.get?_push_of_some _ e, j9 _ lo (hi - lo).toNat, ?_, fun b hb => ?_, q⟩
 · have e1 : lo + ((0 : Nat) : Int) * 1 = lo := by simp
   have e2 : (((hi - lo).toNat : Nat) : Int) - ((0 : Nat) : Int) = Builtin.Range.rangeSize lo hi 1 := by rw [rangeSize_one]; split <;> omega
   show IsRangeIter _ _ (lo + ((0 : Nat) : Int) * 1) ((((hi - lo).toNat : Nat) : Int) - ((0 : Nat) : Int)) 1
   rw [e1, e2]
   exact Heap.get?_push_size _ rfl
 · have e : b = (s.heap.push { cls := .type "range", data := .fields #[.int lo t, .int hi u, .int 1 v] }).objs.size := by simpa using hb
   subst e
   exact I1.fpOk (Nat.le_refl _) (I1.hok.fresh (Nat.le_refl _))
def xN (ta : TA) : TI := fun σ H R => ta σ H fun vs H1 => ∃ j : Int, vs = [.int j] ∧ -(2 ^ 62) ≤ j ∧ j < 2 ^ 62 ∧ R (Itr 0 j.toNat) H1
theorem kQ {a : Expr} {ta : TA} {p pos : Pos} (hg : Gl X "range") (hm : X.mg "range" = none) (ha : PA X [a] ta) (hs : starEach [a] X.env = [(false, eval a X.env)] := by rfl) : PI X tg (.Call (.Name "range" p) [a] [] pos) (xN ta) := by
 intro pins s σ H R I h
 refine Call_ (ji I hg hm boot_range (PyProof.Rows.callWith_type1 (thn (ha pos pins s σ H _ I h) fun us s1 ⟨vs, H1, I1, r1, q1⟩ => ?_) hs rfl))
 obtain ⟨j, e, q1, q2, q⟩ := q1
 subst e
 cases r1 with
 | cons r rr =>
  cases rr
  obtain ⟨t, rfl⟩ := r
  exact call_range_1 (nG I1 (by omega) (by omega) q1 q2 (by simpa using q))
def zO (wi : TI) (g : TG) (tb : TS) : TS := fun D σ H => wi σ H fun J H1 => ∃ W : Nat → Nat → St → Hp → Prop, (∃ m, W 0 m σ H1) ∧ ∀ i m σ H, W i m σ H →
 (J.stop i H ∧ D.nx σ H) ∨ (J.go i H ∧ ∃ N : St → Hp → Prop, (∀ σ' H', N σ' H' → ∃ m', m' < m ∧ W (i + 1) m' σ' H') ∧ ∀ x H', J.yld i H x H' → g x σ H' fun σ2 H2 => tb { D with nx := N, ct := N, bk := D.nx } σ2 H2)
def aG (fp : List Addr) (h : Heap) : List (Addr × Obj) := fp.filterMap fun b => (h.get? b).map fun o => (b, o)
theorem aA {fp : List Addr} {h : Heap} {b : Addr} {o : Obj} (hb : b ∈ fp) (e : h.get? b = some o) : (b, o) ∈ aG fp h := List.mem_filterMap.mpr ⟨b, hb, by rw [e]; rfl⟩
theorem ce {fp : List Addr} {h : Heap} {p : Addr × Obj} (hp : p ∈ aG fp h) : p.1 ∈ fp ∧ h.get? p.1 = some p.2 := by
 obtain ⟨b, hb, e⟩ := List.mem_filterMap.mp hp
 cases q : h.get? b with
 | none => rw [q] at e; cases e
 | some o =>
  rw [q] at e
  have e' : (b, o) = p := Option.some.inj e
  subst e'
  exact ⟨hb, q⟩
theorem Inv.pinned {pins : List (Addr × Obj)} {σ : St} {H : Hp} {s : Shared} {fp : List Addr} (I : Inv X pins σ H s) (hf : ∀ b ∈ fp, jk X pins H b) (ho : ∀ b ∈ fp, ∃ o, s.heap.get? b = some o ∧ ∀ v, o.data ≠ .cell v) : Inv X (pins ++ aG fp s.heap) σ H s :=
 I.pins_of fun p hp => (List.mem_append.mp hp).elim (fun z => I.pin p (List.mem_append_right _ z)) fun z => by
  obtain ⟨hb, e⟩ := ce z
  obtain ⟨f0, f1, f2, _⟩ := hf p.1 hb
  obtain ⟨o, e', d⟩ := ho p.1 hb
  rw [e] at e'; cases e'
  exact ⟨e, f0, f1, f2, d⟩
theorem Inv.unpinned {pins pl : List (Addr × Obj)} {σ : St} {H : Hp} {s : Shared} (I : Inv X (pins ++ pl) σ H s) : Inv X pins σ H s := I.pins_of fun p hp => I.pin p (List.mem_append_right _ (List.mem_append_left _ hp))
theorem jl {iter : Expr} {body : List Stmt} {wi : TI} {g : TG} {tb : TS} {pos : Pos} (hp : PassesOwn (model X.prog X.w) X.A X.env X.xe) (hc : X.calm = true) (hi : PI X tg iter wi) (hg : PG X tg g) (hb : PSs X body tb)
 (hs : ∀ x, foldedSetIterable iter X.env x = pure x := by intro _; rfl) : PS X (.For tg iter body [] pos) (zO wi g tb) := by
 intro pins s σ H D I h
 refine wpAny_For (thn (hi pins s σ H _ I h) fun v s1 h1 => thn h1 fun itv s2 h2 => ?_) hs
 obtain ⟨it, fp, tn, J, H2, e, I2, T, st2, f2, W, ⟨m0, w0⟩, turn⟩ := h2
 subst e
 have stat : ∀ {H' : Hp}, (∀ b ∈ fp, H' b = none) → ∀ b ∈ fp, jk X pins H' b := fun hn b hb => ⟨hn b hb, (f2 b hb).2⟩
 refine codeAny_forLoop_any (fun n s' => ∃ i σ' H', Inv X pins σ' H' s' ∧ tn i s'.heap ∧ (∀ b ∈ fp, H' b = none) ∧ W i n σ' H') ?_ m0 ⟨0, σ, H2, I2, st2, fun b hb => (f2 b hb).1, w0⟩
 rintro n s3 ⟨i, σ3, H3, I3, st3, fr3, w3⟩
 rcases turn i n σ3 H3 w3 with ⟨stop, qn⟩ | ⟨go, N, hN, step⟩
 · refine wpAny_passesOwn hp (thn (T.done X rfl rfl rfl hc i pins s3 σ3 H3 X.xe I3 (stat fr3) st3 stop) fun r s4 ⟨hr, I4⟩ => ?_)
   subst hr
   exact wpAny_execs_nil ⟨σ3, H3, I4, qn⟩
 · refine wpAny_passesOwn hp (thn (T.item X rfl rfl rfl hc i pins s3 σ3 H3 X.xe I3 (stat fr3) st3 go) fun r s4 ⟨u, hr, h4⟩ => ?_)
   subst hr
   refine wpAny_passesOwn hp (thn h4 fun _ s5 ⟨x, H5, I5, r5, y5, st5, fr5⟩ => ?_)
   have I5' := I5.pinned (stat fr5) (T.obj _ _ st5)
   refine wpAny_passesOwn hp (thn (hg _ s5 σ3 H5 x u _ I5' r5 (step x H5 y5)) fun _ s6 ⟨σ6, H6, I6, q6⟩ => ?_)
   refine wpAny_passesOwn hp (thn (hb _ s6 σ6 H6 _ I6 q6) fun f s7 q7 => ?_)
   have again : ∀ {σ7 : St} {H7 : Hp}, Inv X (pins ++ aG fp s5.heap) σ7 H7 s7 → N σ7 H7 → ∃ m, m < n ∧ ∃ i σ' H', Inv X pins σ' H' s7 ∧ tn i s7.heap ∧ (∀ b ∈ fp, H' b = none) ∧ W i m σ' H' := fun {σ7 H7} I7 n7 => by
    obtain ⟨m', hm, w7⟩ := hN σ7 H7 n7
    refine ⟨m', hm, i + 1, σ7, H7, I7.unpinned, T.keep _ _ _ st5 fun b hb o e => (I7.pin (b, o) (List.mem_append_right _ (List.mem_append_right _ (aA hb e)))).1, fun b hb => ?_, w7⟩
    obtain ⟨o, e, d⟩ := T.obj _ _ st5 b hb
    exact (I7.pin (b, o) (List.mem_append_right _ (List.mem_append_right _ (aA hb e)))).2.1
   cases f with
   | next => obtain ⟨σ7, H7, I7, n7⟩ := q7; exact again I7 n7
   | cont => obtain ⟨σ7, H7, I7, n7⟩ := q7; exact again I7 n7
   | brk => obtain ⟨σ7, H7, I7, q7⟩ := q7; exact ⟨σ7, H7, I7.unpinned, q7⟩
   | ret v => obtain ⟨x7, σ7, H7, I7, r7, q7⟩ := q7; exact ⟨x7, σ7, H7, I7.unpinned, r7, q7⟩
end
abbrev R2 := V → V → Hp → VK → Prop
def OpR (X : Cx) (f : Value → Value → Sem Value) (r : R2) : Prop :=
 ∀ (pins : List (Addr × Obj)) (s : Shared) (σ : St) (H : Hp) (x y : V) (v u : Value) (Q : VK), Inv X pins σ H s → RelV x v → RelV y u → r x y H Q →
  wpAny (model X.prog X.w) X.A (f v u) (EP X pins σ Q) X.xe s
def UnR (X : Cx) (f : Value → Sem Value) (r : V → Hp → VK → Prop) : Prop :=
 ∀ (pins : List (Addr × Obj)) (s : Shared) (σ : St) (H : Hp) (x : V) (v : Value) (Q : VK), Inv X pins σ H s → RelV x v → r x H Q →
  wpAny (model X.prog X.w) X.A (f v) (EP X pins σ Q) X.xe s
def CallR (X : Cx) (f : Value) (r : List V → Hp → VK → Prop) : Prop :=
 ∀ (pins : List (Addr × Obj)) (s : Shared) (σ : St) (H : Hp) (xs : List V) (us : List Value) (Q : VK), Inv X pins σ H s → Vals xs us → r xs H Q →
  wpAny (model X.prog X.w) X.A (call f us) (EP X pins σ Q) X.xe s
def tOp (r : R2) (ta tb : TE) : TE := fun σ H Q => ta σ H fun x H1 => tb σ H1 fun y H2 => r x y H2 Q
def tUn (r : V → Hp → VK → Prop) (ta : TE) : TE := fun σ H Q => ta σ H fun x H1 => r x H1 Q
def rI (C : Int → Int → Prop) (g : Int → Int → V) : R2 := fun x y H Q => ∃ i j, x = .int i ∧ y = .int j ∧ C i j ∧ Q (g i j) H
def rI0 (g : Int → Int → V) : R2 := fun x y H Q => ∃ i j, x = .int i ∧ y = .int j ∧ Q (g i j) H
def rU (g : Int → V) : V → Hp → VK → Prop := fun x H Q => ∃ i, x = .int i ∧ Q (g i) H
section
variable {X : Cx} {a b c : Expr} {ta tb tc : TE} {pos : Pos}
theorem xO (ha : PE X a ta) (hb : PE X b tb) {pins : List (Addr × Obj)} {s : Shared} {σ : St} {H : Hp} {R : V → V → Hp → Prop} (I : Inv X pins σ H s)
 (h : ta σ H fun x H1 => tb σ H1 fun y H2 => R x y H2) {Q : Value → Shared → Prop} {f : Value → Value → Sem Value}
 (hf : ∀ v u s2 x y H2, Inv X pins σ H2 s2 → RelV x v → RelV y u → R x y H2 → wpAny (model X.prog X.w) X.A (f v u) Q X.xe s2) :
 wpAny (model X.prog X.w) X.A (eval a X.env) (fun v s₁ => wpAny (model X.prog X.w) X.A (eval b X.env) (fun u s₂ => wpAny (model X.prog X.w) X.A (f v u) Q X.xe s₂) X.xe s₁) X.xe s := by
 refine thn (ha pins s σ H _ I h) fun v s1 ⟨x, H1, I1, r1, q1⟩ => ?_
 refine thn (hb pins s1 σ H1 _ I1 q1) fun u s2 ⟨y, H2, I2, r2, q2⟩ => ?_
 exact hf v u s2 x y H2 I2 r1 r2 q2
theorem tY {op : Operator} {r : R2} (ho : OpR X (binaryOp op) r) (ha : PE X a ta) (hb : PE X b tb) : PE X (.BinOp a op b pos) (tOp r ta tb) := by
 intro pins s σ H Q I h
 exact wpAny_BinOp (xO ha hb I h fun v u s2 x y H2 I2 rx ry q => ho pins s2 σ H2 x y v u Q I2 rx ry q)
theorem xP {op : UnaryOp} {r : V → Hp → VK → Prop} (ho : UnR X (unaryOp op) r) (ha : PE X a ta) : PE X (.UnaryOp op a pos) (tUn r ta) := by
 intro pins s σ H Q I h
 exact UnaryOp_ (thn (ha pins s σ H _ I h) fun v s1 ⟨x, H1, I1, r1, q1⟩ => ho pins s1 σ H1 x v Q I1 r1 q1)
theorem opI {f : Value → Value → Sem Value} {C : Int → Int → Prop} {g : Int → Int → Int}
 (rule : ∀ (i j : Int) (t u : Tok) (s : Shared) (Q : Value → Shared → Prop) (E : Value → Shared → Prop), C i j → Q (.int (g i j) s.toks) { s with toks := s.toks + 1 } → wpAny (model X.prog X.w) X.A (f (.int i t) (.int j u)) Q E s) :
 OpR X f (rI C fun i j => .int (g i j)) := by
 intro pins s σ H x y v u Q I rx ry h
 obtain ⟨i, j, rfl, rfl, hc, q⟩ := h
 obtain ⟨t, rfl⟩ := rx
 obtain ⟨t', rfl⟩ := ry
 exact rule i j t t' s _ _ hc ⟨.int (g i j), H, I.tok _, ⟨_, rfl⟩, q⟩
theorem zP {f : Value → Value → Sem Value} {g : Int → Int → Int}
 (rule : ∀ (i j : Int) (t u : Tok) (s : Shared) (Q : Value → Shared → Prop) (E : Value → Shared → Prop), Q (.int (g i j) s.toks) { s with toks := s.toks + 1 } → wpAny (model X.prog X.w) X.A (f (.int i t) (.int j u)) Q E s) :
 OpR X f (rI0 fun i j => .int (g i j)) := by
 intro pins s σ H x y v u Q I rx ry h
 obtain ⟨i, j, rfl, rfl, q⟩ := h
 obtain ⟨t, rfl⟩ := rx
 obtain ⟨t', rfl⟩ := ry
 exact rule i j t t' s _ _ ⟨.int (g i j), H, I.tok _, ⟨_, rfl⟩, q⟩
theorem xQ {f : Value → Value → Sem Value} {g : Int → Int → Bool}
 (rule : ∀ (i j : Int) (t u : Tok) (s : Shared) (Q : Value → Shared → Prop) (E : Value → Shared → Prop), Q (.bool (g i j)) s → wpAny (model X.prog X.w) X.A (f (.int i t) (.int j u)) Q E s) :
 OpR X f (rI0 fun i j => .bl (g i j)) := by
 intro pins s σ H x y v u Q I rx ry h
 obtain ⟨i, j, rfl, rfl, q⟩ := h
 obtain ⟨t, rfl⟩ := rx
 obtain ⟨t', rfl⟩ := ry
 exact rule i j t t' s _ _ ⟨.bl (g i j), H, I, rfl, q⟩
def zd (i j : Int) : Prop := 0 < j ∧ j < 1073741824
def CMul (i j : Int) : Prop := (-(2 ^ 64) < i ∧ i < 2 ^ 64) ∨ (-(2 ^ 64) < j ∧ j < 2 ^ 64)
theorem CMul.ok {i j : Int} (h : CMul i j) : IntMulOk i j := by
 rcases h with ⟨h1, h2⟩ | ⟨h1, h2⟩
 · exact .of_left (intBits_le_64 h1 h2)
 · exact .of_right (intBits_le_64 h1 h2)
theorem op_add : OpR X (binaryOp .Add) (rI0 fun i j => .int (i + j)) := zP fun _ _ _ _ _ _ _ q => add_int q
theorem pC : OpR X (binaryOp .Mult) (rI CMul fun i j => .int (i * j)) := opI fun _ _ _ _ _ _ _ hc q => mul_int q hc.ok
theorem qF : OpR X (binaryOp .FloorDiv) (rI zd fun i j => .int (i / j)) := opI fun i j _ _ _ _ _ hc q => by
 have h1 : (0 : Int) < j := hc.1
 have h2 : j < 1073741824 := hc.2
 exact floordiv_int (by omega) (by rw [Int.fdiv_eq_ediv_of_nonneg i (by omega)]; exact q) (.inl (PyProof.noPylong_small (by omega)))
theorem tZ : OpR X (binaryOp .Mod) (rI (fun _ j => 0 < j) fun i j => .int (i % j)) := opI fun i j _ _ _ _ _ hc q => by
 have h1 : (0 : Int) < j := hc
 exact mod_int' (by omega) (by rw [Int.fmod_eq_emod_of_nonneg i (by omega)]; exact q)
theorem unI {f : Value → Sem Value} {g : Int → Int}
 (rule : ∀ (i : Int) (t : Tok) (s : Shared) (Q : Value → Shared → Prop) (E : Value → Shared → Prop), Q (.int (g i) s.toks) { s with toks := s.toks + 1 } → wpAny (model X.prog X.w) X.A (f (.int i t)) Q E s) :
 UnR X f (rU fun i => .int (g i)) := by
 intro pins s σ H x v Q I rx h
 obtain ⟨i, rfl, q⟩ := h
 obtain ⟨t, rfl⟩ := rx
 exact rule i t s _ _ ⟨.int (g i), H, I.tok _, ⟨_, rfl⟩, q⟩
theorem ua : UnR X (unaryOp .USub) (rU fun i => .int (-i)) := unI fun _ _ _ _ _ q => neg_int q
end
def xR : V → V → Bool
 | .non, .non => true | .non, .int _ => true | .int _, .non => true | .non, .bl _ => true | .bl _, .non => true | .non, .str _ => true | .str _, .non => true
 | .int _, .int _ => true | .bl _, .bl _ => true | .str _, .str _ => true | .byt _, .byt _ => true
 | .int _, .str _ => true | .str _, .int _ => true | .bl _, .str _ => true | .str _, .bl _ => true
 | _, _ => false
def rEq : R2 := fun x y H Q => xR x y = true ∧ Q (.bl (decide (x = y))) H
def rNe : R2 := fun x y H Q => xR x y = true ∧ Q (.bl (!decide (x = y))) H
theorem iw {i j : Int} : decide (V.int i = V.int j) = (i == j) := by
 rw [Bool.eq_iff_iff]
 simp
theorem kT {i j : Bool} : decide (V.bl i = V.bl j) = (i == j) := by
 rw [Bool.eq_iff_iff]
 simp
theorem iy {i j : Str} : decide (V.str i = V.str j) = (i == j) := by
 rw [Bool.eq_iff_iff]
 simp
theorem kU {i j : Array UInt8} : decide (V.byt i = V.byt j) = (i.toList == j.toList) := by
 rw [Bool.eq_iff_iff]
 cases i
 cases j
 simp
section
variable {X : Cx} {a b c : Expr} {ta tb tc : TE} {pos : Pos}
theorem aB {pins : List (Addr × Obj)} {σ : St} {H : Hp} {s : Shared} {Q : VK} {k k' : Bool} (I : Inv X pins σ H s) (q : Q (.bl k) H) (e : k = k') : EP X pins σ Q (.bool k') s := by
 subst e
 exact ⟨.bl k, H, I, rfl, q⟩
theorem op_eq : OpR X (compareOp .Eq) rEq := by
 intro pins s σ H x y v u Q I rx ry h
 obtain ⟨hs, q⟩ := h
 cases x with
 | non =>
  cases rx
  cases y with
  | non => cases ry; exact PySem.EqNone.eq_none_none (aB I q (by simp))
  | bl j => cases ry; exact PySem.EqNone.eq_none_bool (aB I q (by simp))
  | int j => obtain ⟨t', rfl⟩ := ry; exact PySem.EqNone.eq_none_int (aB I q (by simp))
  | str j => obtain ⟨t', rfl⟩ := ry; exact PySem.EqNone.eq_none_str (aB I q (by simp))
  | _ => exact absurd (show false = true from hs) Bool.false_ne_true
 | bl i =>
  cases rx
  cases y with
  | non => cases ry; exact PySem.EqNone.eq_bool_none (aB I q (by simp))
  | bl j => cases ry; exact eq_bool (aB I q kT)
  | str j => obtain ⟨t', rfl⟩ := ry; exact PySem.EqMixed.eq_bool_str (aB I q (by simp))
  | _ => exact absurd (show false = true from hs) Bool.false_ne_true
 | int i =>
  obtain ⟨t, rfl⟩ := rx
  cases y with
  | non => cases ry; exact PySem.EqNone.eq_int_none (aB I q (by simp))
  | int j => obtain ⟨t', rfl⟩ := ry; exact eq_int (aB I q iw)
  | str j => obtain ⟨t', rfl⟩ := ry; exact PySem.EqMixed.eq_int_str (aB I q (by simp))
  | _ => exact absurd (show false = true from hs) Bool.false_ne_true
 | str i =>
  obtain ⟨t, rfl⟩ := rx
  cases y with
  | non => cases ry; exact PySem.EqNone.eq_str_none (aB I q (by simp))
  | bl j => cases ry; exact PySem.EqMixed.eq_str_bool (aB I q (by simp))
  | int j => obtain ⟨t', rfl⟩ := ry; exact PySem.EqMixed.eq_str_int (aB I q (by simp))
  | str j => obtain ⟨t', rfl⟩ := ry; exact eq_str (aB I q iy)
  | _ => exact absurd (show false = true from hs) Bool.false_ne_true
 | byt i =>
  obtain ⟨t, rfl⟩ := rx
  cases y with
  | byt j => obtain ⟨t', rfl⟩ := ry; exact PySem.W.eq_bytes (aB I q kU)
  | _ => exact absurd (show false = true from hs) Bool.false_ne_true
 | _ => cases y <;> exact absurd (show false = true from hs) Bool.false_ne_true
theorem op_ne : OpR X (compareOp .NotEq) rNe := by
 intro pins s σ H x y v u Q I rx ry h
 obtain ⟨hs, q⟩ := h
 cases x with
 | non =>
  cases rx
  cases y with
  | non => cases ry; exact PySem.EqNone.ne_none_none (aB I q (by simp))
  | bl j => cases ry; exact PySem.EqNone.ne_none_bool (aB I q (by simp))
  | int j => obtain ⟨t', rfl⟩ := ry; exact PySem.EqNone.ne_none_int (aB I q (by simp))
  | str j => obtain ⟨t', rfl⟩ := ry; exact PySem.EqNone.ne_none_str (aB I q (by simp))
  | _ => exact absurd (show false = true from hs) Bool.false_ne_true
 | bl i =>
  cases rx
  cases y with
  | non => cases ry; exact PySem.EqNone.ne_bool_none (aB I q (by simp))
  | bl j => cases ry; exact ne_bool (aB I q (congrArg not kT))
  | str j => obtain ⟨t', rfl⟩ := ry; exact PySem.EqMixed.ne_bool_str (aB I q (by simp))
  | _ => exact absurd (show false = true from hs) Bool.false_ne_true
 | int i =>
  obtain ⟨t, rfl⟩ := rx
  cases y with
  | non => cases ry; exact PySem.EqNone.ne_int_none (aB I q (by simp))
  | int j => obtain ⟨t', rfl⟩ := ry; exact ne_int (aB I q (congrArg not iw))
  | str j => obtain ⟨t', rfl⟩ := ry; exact PySem.EqMixed.ne_int_str (aB I q (by simp))
  | _ => exact absurd (show false = true from hs) Bool.false_ne_true
 | str i =>
  obtain ⟨t, rfl⟩ := rx
  cases y with
  | non => cases ry; exact PySem.EqNone.ne_str_none (aB I q (by simp))
  | bl j => cases ry; exact PySem.EqMixed.ne_str_bool (aB I q (by simp))
  | int j => obtain ⟨t', rfl⟩ := ry; exact PySem.EqMixed.ne_str_int (aB I q (by simp))
  | str j => obtain ⟨t', rfl⟩ := ry; exact ne_str (aB I q (congrArg not iy))
  | _ => exact absurd (show false = true from hs) Bool.false_ne_true
 | byt i =>
  obtain ⟨t, rfl⟩ := rx
  cases y with
  | byt j => obtain ⟨t', rfl⟩ := ry; exact PySem.W.ne_bytes (aB I q (congrArg not kU))
  | _ => exact absurd (show false = true from hs) Bool.false_ne_true
 | _ => cases y <;> exact absurd (show false = true from hs) Bool.false_ne_true
theorem op_lt : OpR X (compareOp .Lt) (rI0 fun i j => .bl (decide (i < j))) := xQ fun _ _ _ _ _ _ _ q => lt_int q
theorem op_le : OpR X (compareOp .LtE) (rI0 fun i j => .bl (decide (i ≤ j))) := xQ fun _ _ _ _ _ _ _ q => le_int q
theorem ub : OpR X (compareOp .Gt) (rI0 fun i j => .bl (decide (j < i))) := xQ fun _ _ _ _ _ _ _ q => gt_int q
theorem kW : OpR X (compareOp .Lt) (fun x y H Q => ∃ i j, x = .str i ∧ y = .str j ∧ Q (.bl (decide (i.cps.toList < j.cps.toList))) H) := by
 intro pins s σ H x y v u Q I rx ry h
 obtain ⟨i, j, rfl, rfl, q⟩ := h
 obtain ⟨t, rfl⟩ := rx
 obtain ⟨t', rfl⟩ := ry
 exact lt_str (aB I q rfl)
theorem op_in_str : OpR X (compareOp .In) (fun x y H Q => ∃ i j, x = .str i ∧ y = .str j ∧ Q (.bl (!(Builtin.Str.occurrences j i 0 j.length 1).isEmpty)) H) := by
 intro pins s σ H x y v u Q I rx ry h
 obtain ⟨i, j, rfl, rfl, q⟩ := h
 obtain ⟨t, rfl⟩ := rx
 obtain ⟨t', rfl⟩ := ry
 exact in_str (aB I q rfl)
theorem qG : OpR X (compareOp .IsNot) (fun x y H Q => y = .non ∧ Q (.bl (!decide (x = .non))) H) := by
 intro pins s σ H x y v u Q I rx ry h
 obtain ⟨rfl, q⟩ := h
 cases ry
 refine isnot_none_gen (aB I q ?_)
 cases x <;> first
  | (cases rx; rfl)
  | (obtain ⟨t, rfl⟩ := rx; rfl)
theorem OpR.or {f : Value → Value → Sem Value} {r r' : R2} (h : OpR X f r) (h' : OpR X f r') : OpR X f (fun x y H Q => r x y H Q ∨ r' x y H Q) := by
 intro pins s σ H x y v u Q I rx ry q
 rcases q with q | q
 · exact h pins s σ H x y v u Q I rx ry q
 · exact h' pins s σ H x y v u Q I rx ry q
theorem kX (b : Expr) {op : CmpOp} (h : op ≠ .In := by decide) (h2 : op ≠ .NotIn := by decide) : behindInMarks op b = false := by
 have e1 : (op == CmpOp.In) = false := by cases op <;> first | rfl | exact absurd rfl h
 have e2 : (op == CmpOp.NotIn) = false := by cases op <;> first | rfl | exact absurd rfl h2
 cases b <;> simp [behindInMarks, e1, e2]
theorem qH {op : CmpOp} {r : R2} (ho : OpR X (compareOp op) r) (ha : PE X a ta) (hb : PE X b tb) (hm : behindInMarks op b = false) : PE X (.Compare a [op] [b] pos) (tOp r ta tb) := by
 intro pins s σ H Q I h
 exact wpAny_Compare1 (xO ha hb I h fun v u s2 x y H2 I2 rx ry q => ho pins s2 σ H2 x y v u Q I2 rx ry q) hm
def uc (t : TE) : TT := fun σ H Q => t σ H fun x H' => ∃ k, x = .bl k ∧ Q k H'
theorem qI {op : CmpOp} {r : R2} (ho : OpR X (compareOp op) r) (ha : PE X a ta) (hb : PE X b tb) (hm : behindInMarks op b = false) : PT X (.Compare a [op] [b] pos) (uc (tOp r ta tb)) := by
 intro pins s σ H Q I h
 refine wpAny_isTrue_Compare1 (thn (ha pins s σ H _ I h) fun v s1 ⟨x, H1, I1, r1, q1⟩ => thn (hb pins s1 σ H1 _ I1 q1) fun u s2 ⟨y, H2, I2, r2, q2⟩ =>
  thn (ho pins s2 σ H2 x y v u _ I2 r1 r2 q2) fun c s3 ⟨z, H3, I3, r3, k, e, q3⟩ => ?_) hm
 subst e
 cases r3
 exact wpAny_truthy_bool ⟨H3, I3, q3⟩
def kY (r r' : R2) (ta tb tc : TE) : TE := fun σ H Q => ta σ H fun x H1 => tb σ H1 fun y H2 => r x y H2 fun z H3 => ∃ k, z = .bl k ∧
 (if k = true then tc σ H3 fun w' H4 => r' y w' H4 Q else Q (.bl false) H3)
theorem nH {op op' : CmpOp} {r r' : R2} (ho : OpR X (compareOp op) r) (ho' : OpR X (compareOp op') r') (ha : PE X a ta) (hb : PE X b tb) (hc : PE X c tc)
 (hm : lastMarks [op, op'] [b, c] = false := by with_unfolding_all rfl) : PT X (.Compare a [op, op'] [b, c] pos) (uc (kY r r' ta tb tc)) := by
 intro pins s σ H Q I h
 refine isTrue_chain (thn (ha pins s σ H _ I h) fun v s1 ⟨x, H1, I1, r1, q1⟩ => test_link (thn (hb pins s1 σ H1 _ I1 q1) fun u s2 ⟨y, H2, I2, r2, q2⟩ =>
  thn (ho pins s2 σ H2 x y v u _ I2 r1 r2 q2) fun d s3 ⟨z, H3, I3, r3, k, e, q3⟩ => ?_)) hm
 subst e
 cases r3
 refine wpAny_truthy_bool ?_
 cases k with
 | false =>
  obtain ⟨k', e', q'⟩ := q3
  cases e'
  exact ite_ff ⟨H3, I3, q'⟩
 | true =>
  refine ite_tt (test_last (thn (hc pins s3 σ H3 _ I3 q3) fun w' s4 ⟨z', H4, I4, r4, q4⟩ => thn (ho' pins s4 σ H4 y z' u w' _ I4 r2 r4 q4) fun d' s5 ⟨z2, H5, I5, r5, k2, e2, q5⟩ => ?_))
  subst e2
  cases r5
  exact wpAny_truthy_bool ⟨H5, I5, q5⟩
theorem gA : (sizeLine : Nat) < 2 ^ 63 := by rw [sizeLine_eq]; decide
theorem op_add_str : OpR X (binaryOp .Add) (fun x y H Q => ∃ i j, x = .str i ∧ y = .str j ∧ i.length + j.length ≤ sizeLine ∧ Q (.str (i ++ j)) H) := by
 intro pins s σ H x y v u Q I rx ry h
 obtain ⟨i, j, rfl, rfl, hz, q⟩ := h
 obtain ⟨t, rfl⟩ := rx
 obtain ⟨t', rfl⟩ := ry
 exact add_str (fun t' tk => ⟨.str (i ++ j), H, I.tok _, ⟨_, rfl⟩, q⟩) hz
theorem eg {x : V} {us : List Value} (r : Vals [x] us) : ∃ u, us = [u] ∧ RelV x u := by
 cases r with
 | cons r1 r2 => cases r2; exact ⟨_, rfl, r1⟩
theorem ud {x y : V} {us : List Value} (r : Vals [x, y] us) : ∃ u w', us = [u, w'] ∧ RelV x u ∧ RelV y w' := by
 cases r with
 | cons r1 r2 =>
  cases r2 with
  | cons r3 r4 => cases r4; exact ⟨_, _, rfl, r1, r3⟩
def zQ (K : PySem.W.Frag) (x : V) (H : Hp) (n : Nat) : Prop :=
 match x with
 | .str y => y.length ≤ sizeLine ∧ n = y.length
 | .byt y => y.size ≤ sizeLine ∧ n = y.size
 | .ref p => (∃ xs, SqL K H p xs ∧ n = xs.length) ∨ ∃ xs, SqT K H p xs ∧ n = xs.length
 | _ => False
theorem nI : CallR X (.builtin "len") (fun xs H Q => ∃ x n, xs = [x] ∧ zQ X.K x H n ∧ Q (.int n) H) := by
 intro pins s σ H xs us Q I r h
 obtain ⟨x, n, rfl, e, q⟩ := h
 obtain ⟨u, rfl, rx⟩ := eg r
 have hl := gA
 have hs : sizeLine = 16777216 := sizeLine_eq
 cases x with
 | str y =>
  obtain ⟨t, rfl⟩ := rx
  obtain ⟨hy, e'⟩ : y.length ≤ sizeLine ∧ n = y.length := e
  subst e'
  exact len_str (by omega) ⟨.int _, H, I.tok _, ⟨_, rfl⟩, q⟩
 | byt y =>
  obtain ⟨t, rfl⟩ := rx
  obtain ⟨hy, e'⟩ : y.size ≤ sizeLine ∧ n = y.size := e
  subst e'
  exact PySem.W.len_bytes (by omega) ⟨.int _, H, I.tok _, ⟨_, rfl⟩, q⟩
 | ref p =>
  cases rx
  have e' : (∃ xs, SqL X.K H p xs ∧ n = xs.length) ∨ ∃ xs, SqT X.K H p xs ∧ n = xs.length := e
  rcases e' with ⟨xs, hx, e'⟩ | ⟨xs, hx, e'⟩
  · subst e'
    obtain ⟨its, r', pl, hz⟩ := I.list hx
    have hlen := r'.length
    exact Calls.call_len_list pl.isList (by simp only [List.size_toArray]; omega) ⟨.int xs.length, H, I.tok _, ⟨_, by simp only [List.size_toArray]; rw [hlen]⟩, q⟩
  · subst e'
    obtain ⟨its, r', pl, hz⟩ := I.tuple hx
    have hlen := r'.length
    exact len_tuple pl (by simp only [List.size_toArray]; omega) ⟨.int xs.length, H, I.tok _, ⟨_, by simp only [List.size_toArray]; rw [hlen]⟩, q⟩
 | _ => exact (show False from e).elim
end
structure ObjM (h : Heap) (x dx C : Addr) (mA : Str → Option Value) : Prop where
 obj : h.get? x = some (PySem.W.instObj C dx)
 ns : h.Ns1 dx mA
 ne : dx ≠ x
theorem kZ {h : Heap} {dx : Addr} {mA : Str → Option Value} (n : h.Ns1 dx mA) : ∃ od, h.get? dx = some od ∧ ∀ name, PySem.W.lookIn name od = some (mA name) := by
 obtain ⟨o, es, ep, ho, hd, hk, _, hm⟩ := n
 refine ⟨o, ho, fun name => ?_⟩
 have e := hm name
 unfold nsFind findBy at e
 rw [← Array.find?_toList] at e
 unfold PySem.W.lookIn
 rw [hd]
 dsimp only
 split
 · rename_i y q
   rw [q] at e
   exact congrArg some e
 · rename_i q
   rw [q] at e
   have a : es.toList.any (·.refKey) = false := by
    rw [List.any_eq_false]
    intro y hy
    obtain ⟨z, t, hkey⟩ := hk y (Array.mem_toList_iff.mp hy)
    simp [DictEntry.refKey, hkey]
   have a' : ¬ es.toList.any (·.refKey) = true := by rw [a]; exact Bool.false_ne_true
   rw [if_neg a']
   exact congrArg some e
theorem ObjM.look {h : Heap} {x dx C : Addr} {mA : Str → Option Value} (I : ObjM h x dx C mA) : ∃ od, PySem.W.InstAt h x (PySem.W.instObj C dx) C (some od) ∧ ∀ name, PySem.W.lookIn name od = some (mA name) :=
 let ⟨od, ho, hl⟩ := kZ I.ns
 ⟨od, ⟨I.obj, rfl, rfl, ho⟩, hl⟩
section
variable {prog : Program} {w : World} {A : Around} {E : Value → Shared → Prop} {s : Shared} {K : PySem.W.Frag} {x dx C f : Addr} {mA : Str → Option Value} {name : Str} {v : Value}
end
theorem RelO.some_of {v : V} {o : Option Value} (r : RelO (some v) o) : ∃ u, o = some u ∧ RelV v u := by
 cases o with
 | none => exact (show False from r).elim
 | some u => exact ⟨u, rfl, r⟩
theorem RelO.none_of {o : Option Value} (r : RelO none o) : o = none := by
 cases o with
 | none => rfl
 | some u => exact (show False from r).elim
section
variable {P : Program} {w : World} {H H' : Hp} {h h' : Heap} {a C dx : Addr} {fs fs' : List (Str × V)}
theorem qJ (hok : HOk P w H h) (e : H a = some (.ins C dx fs)) : ∃ mA, ObjM h a dx C mA ∧ (∀ f, RelO (fs.lookup f) (mA f)) ∧ PySem.Within mA (fs.map (·.1)) ∧ fs.length ≤ 1000 ∧ H dx = some (.own a) := by
 obtain ⟨d, z, ne, ob, mA, n, r, q⟩ := (show ObjOk P w H h a (.ins C dx fs) from hok a _ e)
 exact ⟨mA, ⟨ob, n, ne⟩, r, q, z, d⟩
end
structure Cls (K : PySem.W.Frag) (C : Addr) : Prop where
 pg : PySem.W.plainGet K C Str.empty = true
 hd : PySem.W.hasDictIn K C = true
 po : PySem.W.plainOver K C = true
 sa : PySem.W.findIn K (.ref C) "__setattr__" = some (some (.builtin "object.__setattr__"))
theorem Cls.get {K : PySem.W.Frag} {C : Addr} (c : Cls K C) (f : Str) : PySem.W.plainGet K C f = true := c.pg
structure Con (K : PySem.W.Frag) (C : Addr) (f : Str) (v : V) (u : Value) : Prop where
 at_ : PySem.W.findIn K (.ref C) f = some (some u)
 rel : RelV v u
 get : PySem.W.specialIn K u "__get__" = some none
 cp : PySem.W.copiedNames.contains f = false
structure Ab (K : PySem.W.Frag) (C : Addr) (m : Str) (f : Addr) : Prop where
 at_ : PySem.W.findIn K (.ref C) m = some (some (.ref f))
 fn : PySem.W.isFn K (.ref f) = true
 kp : PySem.W.keepIn K (.ref f) = true
section
variable {X : Cx} {pins : List (Addr × Obj)} {σ : St} {H : Hp} {s : Shared} {a C dx : Addr} {fs : List (Str × V)} {f : Str} {v : V} {A : Around} {E : Value → Shared → Prop}
theorem Inv.made (I : Inv X pins σ H s) : Inv X pins σ (upd (upd H s.heap.objs.size (.own (s.heap.objs.size + 1))) (s.heap.objs.size + 1) (.ins C s.heap.objs.size []))
 { s with heap := (s.heap.push PySem.W.emptyDict).push (PySem.W.instObj C s.heap.objs.size) } := by
 have e1 : (s.heap.push PySem.W.emptyDict).get? s.heap.objs.size = some PySem.W.emptyDict := Heap.get?_push_size s.heap rfl
 have e2 : ((s.heap.push PySem.W.emptyDict).push (PySem.W.instObj C s.heap.objs.size)).get? (s.heap.objs.size + 1) = some (PySem.W.instObj C s.heap.objs.size) := by
  have := Heap.get?_push_size (s.heap.push PySem.W.emptyDict) (o := PySem.W.instObj C s.heap.objs.size) rfl
  rwa [Heap.size_push] at this
 have e3 : (s.heap.push PySem.W.emptyDict).Ns s.heap.objs.size (fun _ => none) := ⟨PySem.W.emptyDict, #[], _, e1, rfl, (fun e he => absurd he (by simp)), fun _ => rfl⟩
 have I1 := I.laid (a := s.heap.objs.size) (o := .own (s.heap.objs.size + 1)) (h' := s.heap.push PySem.W.emptyDict) (t' := s.toks) (fun b u q => Heap.get?_push_of_some _ q) (Nat.le_refl _) ⟨_, e1⟩
 refine I1.laid (a := s.heap.objs.size + 1) (o := .ins C s.heap.objs.size []) (t' := s.toks) (fun b u q => Heap.get?_push_of_some _ q) (Nat.le_of_eq (Heap.size_push _ _)) ?_
 have ne : s.heap.objs.size ≠ s.heap.objs.size + 1 := Nat.ne_of_lt (Nat.lt_succ_self _)
 refine ⟨by rw [ak ne, am], Nat.zero_le _, ne, e2, fun _ => none, (Heap.Ns1.of_empty e3).at fun o q => Heap.get?_push_of_some _ q, fun _ => True.intro, fun y hy => absurd rfl hy⟩
end
section
variable {X : Cx} {o e value : Expr} {f : Str} {pos pos' tpos : Pos} {ta tv : TE}
end
section
variable {X : Cx} {pins : List (Addr × Obj)} {σ : St} {H : Hp} {s : Shared} {A : Around} {E : Value → Shared → Prop} {Q : Value → Shared → Prop} {c : Value} {b : Bool}
inductive jm (K : PySem.W.Frag) (H : Hp) : V → Value → Prop where
 | non : jm K H .non (.type "NoneType")
 | bl (x : Bool) : jm K H (.bl x) (.type "bool")
 | int (i : Int) : jm K H (.int i) (.type "int")
 | str (x : Str) : jm K H (.str x) (.type "str")
 | flt (x : UInt64) : jm K H (.flt x) (.type "float")
 | lst {a : Addr} {xs : List V} (e : H a = some (.lst xs)) : jm K H (.ref a) (.type "list")
 | frz {a : Addr} {o : Obj} {xs : List V} (e : H a = some (.frz o (.lst xs))) : jm K H (.ref a) (.type "list")
 | tup {a : Addr} {xs : List V} (e : H a = some (.tup xs)) : jm K H (.ref a) (.type "tuple")
 | dK {a : Addr} {kvs : List (Key × V)} (e : H a = some (.dK kvs)) : jm K H (.ref a) (.type "dict")
 | dT {a : Addr} {kvs : List (List Key × V)} (e : H a = some (.dT kvs)) : jm K H (.ref a) (.type "dict")
 | ins {a C dx : Addr} {fs : List (Str × V)} (e : H a = some (.ins C dx fs)) (cl : Cls K C) (ha : PySem.W.findIn K (.ref C) "__class__" = some (some (.builtin "object.__class__")))
  (hn : PySem.W.specialIn K (.builtin "object.__class__") "__get__" = some (some (.builtin "getset_descriptor.__get__"))) (htk : PySem.W.takesIn K (.builtin "object.__class__") = some true)
  (hm : PySem.W.mroIn K C (.type "object") = some true) : jm K H (.ref a) (.ref C)
theorem k6 {x : V} {u t : Value} (I : Inv X pins σ H s) (rx : RelV x u) (ty : jm X.K H x t) (e : PySem.W.kitOne X.K t c = some b) (h : ∀ tk, Q (.bool b) { s with toks := tk }) :
 wpAny (model X.prog X.w) A (call (.builtin "isinstance") [u, c]) Q E s := by
 cases ty with
 | non => cases (show u = Value.none from rx); exact PySem.W.kia_one PySem.W.kitx_none I.kIn True.intro e (fun z => nomatch z) h
 | bl y => cases (show u = Value.bool y from rx); exact PySem.W.kia_one PySem.W.kitx_bool I.kIn True.intro e (fun z => nomatch z) h
 | int i => obtain ⟨t, q⟩ := (show ∃ t, u = Value.int i t from rx); cases q; exact PySem.W.kia_one PySem.W.kitx_int I.kIn True.intro e (fun z => nomatch z) h
 | str y => obtain ⟨t, q⟩ := (show ∃ t, u = Value.str y t from rx); cases q; exact PySem.W.kia_one PySem.W.kitx_str I.kIn True.intro e (fun z => nomatch z) h
 | flt y => obtain ⟨t, q⟩ := (show ∃ t, u = Value.float y t from rx); cases q; exact PySem.W.kia_one PySem.W.kitx_float I.kIn True.intro e (fun z => nomatch z) h
 | @lst a xs ea =>
  cases (show u = Value.ref a from rx)
  obtain ⟨_, _, n, _, h1⟩ := (show ObjOk X.prog X.w H s.heap a (.lst xs) from I.hok a _ ea)
  exact PySem.W.kia_one PySem.W.kitx_list I.kIn ⟨_, h1, rfl⟩ e (fun z => nomatch z) h
 | @frz a ob xs ea =>
  cases (show u = Value.ref a from rx)
  obtain ⟨_, _, _, n, _, h1⟩ := (show ObjOk X.prog X.w H s.heap a (.frz ob (.lst xs)) from I.hok a _ ea)
  exact PySem.W.kia_one PySem.W.kitx_list I.kIn ⟨_, h1, rfl⟩ e (fun z => nomatch z) h
 | @tup a xs ea =>
  cases (show u = Value.ref a from rx)
  obtain ⟨_, _, _, p⟩ := (show ObjOk X.prog X.w H s.heap a (.tup xs) from I.hok a _ ea)
  obtain ⟨o, h1, h2, _⟩ := p
  exact PySem.W.kia_one PySem.W.kitx_tuple I.kIn ⟨o, h1, h2⟩ e (fun z => nomatch z) h
 | @dK a kvs ea =>
  cases (show u = Value.ref a from rx)
  obtain ⟨_, _, vs, _, p⟩ := (show ObjOk X.prog X.w H s.heap a (.dK kvs) from I.hok a _ ea)
  obtain ⟨o, es, ep, h1, h2, _⟩ := p
  exact PySem.W.kia_one PySem.W.kitx_dict I.kIn ⟨o, h1, h2.1⟩ e (fun z => nomatch z) h
 | @dT a kvs ea =>
  cases (show u = Value.ref a from rx)
  obtain ⟨_, _, xs, _, o, es, ep, h1, h2, _⟩ := (show ObjOk X.prog X.w H s.heap a (.dT kvs) from I.hok a _ ea)
  exact PySem.W.kia_one PySem.W.kitx_dict I.kIn ⟨o, h1, h2.1⟩ e (fun z => nomatch z) h
 | @ins a C dx fs ea cl ha hn htk hm =>
  cases (show u = Value.ref a from rx)
  obtain ⟨mA, O, _⟩ := qJ I.hok ea
  obtain ⟨od, J, _⟩ := O.look
  exact PySem.W.kia_one (PySem.W.kitx_own (cl.get _) cl.hd ha hn htk hm) I.kIn J e (fun z => nomatch z) h
end
structure Room (k : Nat) (A : Around) : Prop where
 hd : A.handled = none
 dp : A.depth + 3 * k + 5 < recursionLimit
 un : A.units + 16 * k + 200 < cLine
 gd : A.guards = some []
theorem Room.mono {j k : Nat} {A : Around} (r : Room k A) (h : j ≤ k) : Room j A := ⟨r.hd, by have := r.dp; omega, by have := r.un; omega, r.gd⟩
theorem Room.deeper {k : Nat} {A : Around} (r : Room (k + 1) A) (env : Env) : Room k (A.deeper env) :=
 ⟨r.hd, by have := r.dp; show A.depth + 1 + 3 * k + 5 < _; omega, by have := r.un; show A.units + 3 + 16 * k + 200 < _; omega, r.gd⟩
theorem Room.in1 {k : Nat} {A : Around} (r : Room (k + 1) A) : Room k A.in1 :=
 ⟨r.hd, by have := r.dp; show A.depth + 3 * k + 5 < _; omega, by have := r.un; show A.units + 1 + 16 * k + 200 < _; omega, r.gd⟩
theorem ka {A : Around} {C : Addr} {us : List Value} {kw : List (Str × Value)} : (A.under (.builtin "type.__call__" ⟨.ref C :: us, kw⟩)).depth = A.depth + 1 := by
 first | rfl | simp [Around.under, Code.weight, Code.isCreation, Code.isGuard, Code.isCaller, Code.frames, Code.isFrame, guardIds]
theorem kc {A : Around} {C : Addr} {us : List Value} {kw : List (Str × Value)} : (A.under (.builtin "type.__call__" ⟨.ref C :: us, kw⟩)).units = A.units + 1 := by
 first | rfl | simp [Around.under, Code.cUnits, Code.frames, Code.isFrame]
theorem Room.make {k : Nat} {A : Around} (r : Room (k + 1) A) (C : Addr) (us : List Value) (kw : List (Str × Value)) : Room k (A.under (.builtin "type.__call__" ⟨.ref C :: us, kw⟩)) :=
 ⟨r.hd, by have := r.dp; rw [ka]; omega, by have := r.un; rw [kc]; omega, by have := r.gd; simp [Around.under, Code.guards, Code.isGuard, guardIds, pushGuards, this]⟩
theorem Room.depth {k : Nat} {A : Around} (r : Room k A) : A.depth < recursionLimit := by have := r.dp; omega
theorem Room.units {k : Nat} {A : Around} (r : Room k A) : A.units + 64 < cLine := by have := r.un; omega
theorem Room.units0 {k : Nat} {A : Around} (r : Room k A) : A.units < cLine := by have := r.un; omega
def zR : TA := fun _ H Q => Q [] H
def xS (ta : TE) (tr : TA) : TA := fun σ H Q => ta σ H fun x H1 => tr σ H1 fun xs H2 => Q (x :: xs) H2
section
variable {X : Cx} {e : Expr} {es : List Expr} {te : TE} {t : TA} {pos : Pos}
theorem eY : PA X [] zR := fun _ _ _ _ H Q I h => Calls.spliced_nil ⟨[], H, I, .nil, h⟩
theorem bH (ha : PE X e te) (hr : PA X es t) (hs : starEach (e :: es) X.env = (false, eval e X.env) :: starEach es X.env := by rfl) : PA X (e :: es) (xS te t) := by
 intro pos pins s σ H Q I h
 rw [hs]
 show wpAny _ _ (spliced ((false, eval e X.env) :: backTo pos (starEach es X.env))) _ _ s
 refine Calls.spliced_cons (thn (ha pins s σ H _ I h) fun u s1 ⟨x, H1, I1, r1, q1⟩ => ?_)
 exact thn (hr pos pins s1 σ H1 _ I1 q1) fun us s2 ⟨xs, H2, I2, r2, q2⟩ => ⟨x :: xs, H2, I2, .cons r1 r2, q2⟩
def zS (t : TA) : TE := fun σ H Q => t σ H fun xs H1 => xs.length ≤ sizeLine ∧ ∀ p, H1 p = none → Q (.ref p) (upd H1 p (.tup xs))
def zT (t : TA) : TE := fun σ H Q => t σ H fun xs H1 => xs.length ≤ sizeLine ∧ ∀ p, H1 p = none → Q (.ref p) (upd H1 p (.lst xs))
theorem pD {x1} (h : PA X es t) : PE X (.Tuple es x1 pos) (zS t) := by
 intro pins s σ H Q I hq
 refine wpAny_Tuple_spliced (thn (h pos pins s σ H _ I hq) fun us s1 ⟨xs, H1, I1, r, z, q⟩ => ⟨by rw [← r.length]; exact z, ?_⟩)
 have hf : H1 s1.heap.objs.size = none := I1.hok.fresh (Nat.le_refl _)
 refine ⟨.ref s1.heap.objs.size, upd H1 s1.heap.objs.size (.tup xs), I1.laid (t' := s1.toks) (fun b u e => Heap.get?_push_of_some _ e) (Nat.le_refl _) ?_, rfl, q _ hf⟩
 exact ⟨z, us, r, ⟨_, Heap.get?_push_size _ rfl, rfl, _, rfl⟩⟩
theorem pE (h : PA X es t) : PE X (.List es pos) (zT t) := by
 intro pins s σ H Q I hq
 refine wpAny_List_spliced (thn (h pos pins s σ H _ I hq) fun us s1 ⟨xs, H1, I1, r, z, q⟩ => ⟨by rw [← r.length]; exact z, ?_⟩)
 have hf : H1 s1.heap.objs.size = none := I1.hok.fresh (Nat.le_refl _)
 refine ⟨.ref s1.heap.objs.size, upd H1 s1.heap.objs.size (.lst xs), I1.laid (t' := s1.toks) (fun b u e => Heap.get?_push_of_some _ e) (Nat.le_refl _) ?_, rfl, q _ hf⟩
 exact ⟨z, us, 0, r, Heap.get?_push_size _ rfl⟩
end
abbrev Sp := List V → Hp → VK → XK → Prop
abbrev CXT := List Env → Hp → Shared → XK → Value → Shared → Prop
structure Env0 (P : Program) (w : World) (K : PySem.W.Frag) (mg : Str → Option Value) (base : Heap) (A : Around) (outer : List Env) (s : Shared) (H : Hp) : Prop where
 frames : A.frames = some outer
 mod : Mod K mg base
 bs : ∀ b o, base.get? b = some o → s.heap.get? b = some o ∧ H b = none
 bsz : base.objs.size ≤ s.heap.objs.size
 funs : s.heap.FunFrames base outer
 frf : ∀ b ∈ frs outer, H b = none
 hok : HOk P w H s.heap
 bare : AllBare s.gens
def CE (outer : List Env) (P : Program) (w : World) (H : Hp) (s : Shared) (Q : VK) (u : Value) (s' : Shared) : Prop :=
 ∃ v H', s'.os = s.os ∧ AllBare s'.gens ∧ Un (frs outer) [] H H' s.heap s'.heap ∧ HOk P w H' s'.heap ∧ RelV v u ∧ Q v H'
def CR (CX : CXT) (outer : List Env) (P : Program) (w : World) (H : Hp) (s : Shared) (Q : VK) (E : XK) (r : Result) (s' : Shared) : Prop :=
 match r with
 | .ok (.ret u) => CE outer P w H s Q u s'
 | .ok _ => False
 | .error e => CX outer H s E e s'
structure FnOk (P : Program) (w : World) (K : PySem.W.Frag) (mg : Str → Option Value) (base : Heap) (CX : CXT) (k : Nat) (f : Addr) (fd : FuncData) (ps : List Str) (sp : Sp) : Prop where
 len : ∀ vs H Q E, sp vs H Q E → vs.length = ps.length
 run : ∀ (A : Around) (outer : List Env) (s : Shared) (H : Hp) (args : Args) (us : List Value) (vs : List V) (Q : VK) (E : XK), Room k A → Env0 P w K mg base A outer s H → BindsTo s fd args (ps.zip us) → Vals vs us → sp vs H Q E →
  codeAny (model P w) A (.call (.ref f) args) (CR CX outer P w H s Q E) s
theorem FnOk.mono {P : Program} {w : World} {K : PySem.W.Frag} {mg : Str → Option Value} {base : Heap} {CX : CXT} {j k : Nat} {f : Addr} {fd : FuncData} {ps : List Str} {sp : Sp} (F : FnOk P w K mg base CX j f fd ps sp) (h : j ≤ k) :
 FnOk P w K mg base CX k f fd ps sp := ⟨F.len, fun A outer s H args us vs Q E hr => F.run A outer s H args us vs Q E (hr.mono h)⟩
theorem FnOk.imp {P : Program} {w : World} {K : PySem.W.Frag} {mg : Str → Option Value} {base : Heap} {CX : CXT} {k : Nat} {f : Addr} {fd : FuncData} {ps : List Str} {sp sp' : Sp} (F : FnOk P w K mg base CX k f fd ps sp)
 (h : ∀ vs H Q E, sp' vs H Q E → sp vs H Q E) : FnOk P w K mg base CX k f fd ps sp' :=
 ⟨fun vs H Q E q => F.len vs H Q E (h _ _ _ _ q), fun A outer s H args us vs Q E hr he hb hv hs => F.run A outer s H args us vs Q E hr he hb hv (h _ _ _ _ hs)⟩
theorem Env0.make {P : Program} {w : World} {K : PySem.W.Frag} {mg : Str → Option Value} {base : Heap} {A : Around} {outer : List Env} {s : Shared} {H : Hp} (e : Env0 P w K mg base A outer s H) (C : Addr) (us : List Value) (kw : List (Str × Value)) :
 Env0 P w K mg base (A.under (.builtin "type.__call__" ⟨.ref C :: us, kw⟩)) outer s H := ⟨by first | exact e.frames | (simpa [Around.under, Code.envs, Code.isFrame, pushEnvs] using e.frames), e.mod, e.bs, e.bsz, e.funs, e.frf, e.hok, e.bare⟩
theorem Env0.in1 {P : Program} {w : World} {K : PySem.W.Frag} {mg : Str → Option Value} {base : Heap} {A : Around} {outer : List Env} {s : Shared} {H : Hp} (e : Env0 P w K mg base A outer s H) :
 Env0 P w K mg base A.in1 outer s H := ⟨e.frames, e.mod, e.bs, e.bsz, e.funs, e.frf, e.hok, e.bare⟩
section
variable {X : Cx} {pins : List (Addr × Obj)} {σ : St} {H : Hp} {s s' : Shared}
theorem Inv.env0 (I : Inv X pins σ H s) : Env0 X.prog X.w X.K X.mg X.base X.A X.stack s H :=
 ⟨I.ok.frames, I.ok.mod, I.bs, Nat.le_trans I.ok.bsz I.sz, I.stack, I.stkFree, I.hok, I.bare⟩
theorem Inv.after {Q : VK} {u : Value} (I : Inv X pins σ H s) (h : CE X.stack X.prog X.w H s Q u s') : EP X pins σ Q u s' := by
 obtain ⟨v, H', os, bare, un, hok, r, q⟩ := h
 obtain ⟨hh, g, d, t, os'⟩ := s'
 obtain rfl : os' = s.os := os
 exact ⟨v, H', I.call (h' := hh) (g' := g) (d' := d) (t' := t) (ch := []) un hok bare (fun b z => absurd z (by simp)), r, q⟩
end
def xT (sp : Sp) (dvs : List V) (E : XK) (t : TA) : TE := fun σ H Q => t σ H fun vs H1 => sp (vs ++ dvs) H1 Q E
def Binds (K : PySem.W.Frag) (fd : FuncData) (ps : List Str) (ds : List Value) : Prop :=
 ∀ (s : Shared) (us : List Value), K.In s.heap → (us ++ ds).length = ps.length → BindsTo s fd ⟨us, []⟩ (ps.zip (us ++ ds))
theorem Binds.all {K : PySem.W.Frag} {fd : FuncData} {ps : List Str} (h : ∀ us : List Value, us.length = ps.length → bindArgs fd ⟨us, []⟩ = pure (ps.zip us)) : Binds K fd ps [] := fun s us _ hl => by
 rw [List.append_nil] at hl ⊢
 exact .of_eq (h us hl)
def jn (CX : CXT) (X : Cx) (E : XK) : Prop := ∀ (pins : List (Addr × Obj)) (σ : St) (H : Hp) (s : Shared) (e : Value) (s' : Shared), Inv X pins σ H s → CX X.stack H s E e s' → X.xe e s'
section
variable {X : Cx} {CX : CXT} {k : Nat} {f C : Addr} {fd : FuncData} {ps : List Str} {sp : Sp} {dvs : List V} {ds : List Value} {E : XK} {x m : Str} {p pos apos : Pos} {e o : Expr} {es : List Expr} {ta : TE} {t : TA}
theorem ue {pins : List (Addr × Obj)} {σ : St} {H : Hp} {s : Shared} {Q : VK} {us : List Value} {vs : List V} (F : FnOk X.prog X.w X.K X.mg X.base CX k f fd ps sp) (hr : Room k X.A) (hb : Binds X.K fd ps ds) (hd : Vals dvs ds) (hx : jn CX X E)
 (I : Inv X pins σ H s) (r : Vals vs us) (h : sp (vs ++ dvs) H Q E) : wpAny (model X.prog X.w) X.A (call (.ref f) us) (EP X pins σ Q) X.xe s := by
 have r2 : Vals (vs ++ dvs) (us ++ ds) := r.append hd
 have hl : (us ++ ds).length = ps.length := by rw [← r2.length]; exact F.len _ _ _ _ h
 refine wpAny_call (codeAny_mono (F.run X.A X.stack s H ⟨us, []⟩ (us ++ ds) (vs ++ dvs) Q E hr I.env0 (hb s us I.kIn hl) r2 h) fun r s' hq => ?_)
 cases r with
 | error e => exact hx pins σ H s e s' I hq
 | ok fl =>
  cases fl with
  | ret u => exact I.after hq
  | next => exact False.elim hq
  | brk => exact False.elim hq
  | cont => exact False.elim hq
theorem iz (F : FnOk X.prog X.w X.K X.mg X.base CX k f fd ps sp) (hr : Room k X.A) (hg : Gl X x) (hm : X.mg x = some (.ref f)) (hk : PySem.W.keepIn X.K (.ref f) = true) (hb : Binds X.K fd ps ds) (hd : Vals dvs ds) (hx : jn CX X E)
 (ha : PA X (e :: es) t) (hdb : (x == ("__debug__" : Str)) = false := by decide) (he : starEach (e :: es) X.env = (false, eval e X.env) :: starEach es X.env := by rfl) (hpl : (backTo pos (starEach es X.env)).any (·.1) = false := by rfl) :
 PE X (.Call (.Name x p) (e :: es) [] pos) (xT sp dvs E t) := by
 intro pins s σ H Q I h
 refine wpAny_Call_Name_kw (ef I hg hm ?_ hdb)
 refine PySem.W.callWith_K (h₀ := X.base) I.ok.mod.kin hk (thn (ha pos pins s σ H _ I h) fun us s1 ⟨vs, H1, I1, r, q⟩ => ⟨I1.kIn, ?_⟩) he hpl
 exact ue F hr hb hd hx I1 r q
structure Mk (K : PySem.W.Frag) (C f : Addr) : Prop where
 makes : PySem.W.makesIn K C = true
 init : PySem.W.findIn K (.ref C) "__init__" = some (some (.ref f))
 fn : PySem.W.isFn K (.ref f) = true
 kp : PySem.W.keepIn K (.ref C) = true
end
section
variable {X : Cx} {CX : CXT} {k : Nat} {f C : Addr} {fd : FuncData} {ps ks : List Str} {sp : Sp} {E : XK} {x m : Str} {p pos apos kpos : Pos} {e o : Expr} {es : List Expr} {kws : List Keyword} {te ta : TE} {t tk : TA} {nm : Option Str}
structure ze (K : PySem.W.Frag) (fd : FuncData) (ps ks : List Str) (g : List Value → List Value → List Value) (gV : List V → List V → List V) : Prop where
 to : ∀ (s : Shared) (us ws : List Value), K.In s.heap → (g us ws).length = ps.length → BindsTo s fd ⟨us, ks.zip ws⟩ (ps.zip (g us ws))
 rel : ∀ {vs : List V} {us : List Value} {zs : List V} {ws : List Value}, Vals vs us → Vals zs ws → Vals (gV vs zs) (g us ws)
variable {g : List Value → List Value → List Value} {gV : List V → List V → List V}
end
structure bX (N P : List Str) (sc : Scope) : Prop where
 kind : sc.kind = .function
 co : sc.isCoroutine = false
 gen : sc.isGenerator = false
 nd : N.Nodup
 pre : N.take P.length = P
 par : ∀ x ∈ P, sc.names.lookup x = some .local ∨ sc.names.lookup x = some .cell
 nofree : ∀ y ∈ sc.names, y.2 ≠ .free
theorem gB {kindOf : Str → Option NameKind} {x : Str} : ∀ {binds : List (Str × Value)} {m : Str → Option Value}, (∀ v, (x, v) ∉ binds) → bindL kindOf binds m x = m x
 | [], _, _ => rfl
 | (n, v) :: r, m, h => by
  unfold bindL
  rw [gB fun w hw => h w (List.mem_cons_of_mem _ hw)]
  split
  · have : x ≠ n := by rintro rfl; exact h v List.mem_cons_self
    simp [this]
  · rfl
theorem gC {kindOf : Str → Option NameKind} {x : Str} : ∀ {binds : List (Str × Value)} {m : Str → Option Value}, (∀ v, (x, v) ∉ binds) → bindC kindOf binds m x = m x
 | [], _, _ => rfl
 | (n, v) :: r, m, h => by
  unfold bindC
  rw [gC fun w hw => h w (List.mem_cons_of_mem _ hw)]
  split
  · rfl
  · have : x ≠ n := by rintro rfl; exact h v List.mem_cons_self
    simp [this]
theorem gD {kindOf : Str → Option NameKind} {x : Str} {v : Value} : ∀ {P : List Str} {vs : List Value} {i : Nat} {m : Str → Option Value}, P.Nodup → P[i]? = some x → vs[i]? = some v → kindOf x = some .local →
 bindL kindOf (P.zip vs) m x = some v
 | [], _, _, _, _, h, _, _ => by simp at h
 | _ :: _, [], _, _, _, _, h, _ => by simp at h
 | p :: P, w :: vs, 0, m, nd, h1, h2, hk => by
  simp at h1 h2; subst h1; subst h2
  show bindL kindOf ((p, w) :: P.zip vs) m p = _
  unfold bindL
  rw [gB fun v hv => (List.nodup_cons.mp nd).1 (List.of_mem_zip hv).1, if_pos hk]
  simp
 | p :: P, w :: vs, i + 1, m, nd, h1, h2, hk => by
  show bindL kindOf ((p, w) :: P.zip vs) m x = _
  unfold bindL
  exact gD (i := i) (List.nodup_cons.mp nd).2 (by simpa using h1) (by simpa using h2) hk
theorem gE {kindOf : Str → Option NameKind} {x : Str} {v : Value} : ∀ {P : List Str} {vs : List Value} {i : Nat} {m : Str → Option Value}, P.Nodup → P[i]? = some x → vs[i]? = some v → kindOf x ≠ some .local →
 bindC kindOf (P.zip vs) m x = some v
 | [], _, _, _, _, h, _, _ => by simp at h
 | _ :: _, [], _, _, _, _, h, _ => by simp at h
 | p :: P, w :: vs, 0, m, nd, h1, h2, hk => by
  simp at h1 h2; subst h1; subst h2
  show bindC kindOf ((p, w) :: P.zip vs) m p = _
  unfold bindC
  rw [gC fun v hv => (List.nodup_cons.mp nd).1 (List.of_mem_zip hv).1, if_neg hk]
  simp
 | p :: P, w :: vs, i + 1, m, nd, h1, h2, hk => by
  show bindC kindOf ((p, w) :: P.zip vs) m x = _
  unfold bindC
  exact gE (i := i) (List.nodup_cons.mp nd).2 (by simpa using h1) (by simpa using h2) hk
def start (N : List Str) (vs : List V) : St := vs.map some ++ List.replicate (N.length - vs.length) none
def ik (CX : CXT) (P : Program) (w : World) (K : PySem.W.Frag) (mg : Str → Option Value) (base : Heap) (N : List Str) (qual : Str) (scope : Scope) (f : Addr) (cd : Value) (A : Around) (outer : List Env) (s : Shared) (H : Hp) (E : XK) : Cx where
 prog := P
 w := w
 K := K
 mg := mg
 base := base
 A := A.deeper (envOfC qual scope s.heap.objs.size f cd)
 N := N
 s₀ := s
 H₀ := H
 env := envOfC qual scope s.heap.objs.size f cd
 outer := outer
 stack := envOfC qual scope s.heap.objs.size f cd :: outer
 ex := []
 calm := true
 fn := fun _ => true
 pn := []
 xe := fun e s' => wpAny (model P w) (A.deeper (envOfC qual scope s.heap.objs.size f cd)) (leaving (envOfC qual scope s.heap.objs.size f cd) e) (fun _ s'' => CX outer H s E e s'') (fun e' s'' => CX outer H s E e' s'') s'
theorem jo {sc : Scope} {n : Nat} {x : Str} (h : sc.names.lookup x = some .cell) : ∃ c, (cellsFrom n sc.names []).lookup x = some c := by
 have q := PySem.W.cellsFrom_some sc.names n [] (.inl h)
 exact Option.isSome_iff_exists.mp q
theorem gF {CX : CXT} {P : Program} {w : World} {K : PySem.W.Frag} {mg : Str → Option Value} {base : Heap} {N ps : List Str} {qual : Str} {scope : Scope} {f : Addr} {cd : Value} {A : Around} {outer : List Env} {s s1 : Shared} {H : Hp} {E : XK} {us : List Value} {vs : List V}
 (S : bX N ps scope) (hd : A.handled = none) (e0 : Env0 P w K mg base A outer s H) (hl : vs.length = ps.length) (r : Vals vs us)
 (x : InCallC s s.heap.objs.size (bindL (envOfC qual scope s.heap.objs.size f cd).kindOf (ps.zip us) fun _ => none) (cellsFrom (s.heap.objs.size + 1) scope.names []) (bindC (envOfC qual scope s.heap.objs.size f cd).kindOf (ps.zip us) fun _ => none) s1) :
 Inv (ik CX P w K mg base N qual scope f cd A outer s H E) [] (start N vs) H s1 := by
 have hpl : ps.length ≤ N.length := by have := congrArg List.length S.pre; rw [List.length_take] at this; omega
 obtain ⟨h1, tk, rfl, hk⟩ := x.done
 have noA : ∀ b : Addr, b ∉ (ik CX P w K mg base N qual scope f cd A outer s H E).ex := fun b z => absurd (show b ∈ ([] : List Addr) from z) (by simp)
 refine ⟨⟨e0.mod, S.kind, rfl, rfl, Nat.le_refl _, fun y z c h1 h2 => ?_, fun y hy => ?_, fun y c _ h => ?_, fun _ => hd, Around.frames_deeper e0.frames, .inr ⟨rfl, rfl⟩, fun b z => absurd z (noA b), e0.bs, e0.bsz, fun b _ _ => noA b, fun b z => absurd z (noA b), e0.funs, e0.frf⟩,
  rfl, e0.bare, Un.kept hk, ⟨_, x.toInCall.ns, fun i y v h1 h2 h3 => ?_⟩, fun y c h => ⟨_, x.cell y c h⟩, e0.hok.fresh (Nat.le_refl _), fun y c h => ?_, fun p hp => absurd (show p ∈ ([] : List (Addr × Obj)) from hp) (by simp), e0.hok.kept hk, ?_⟩
 · exact name_of_addr x.apart (PySem.mem_of_lookup h1) (PySem.mem_of_lookup h2)
 · have hy : scope.names.lookup y = some .cell ∨ scope.names.lookup y = some .free := hy
   rcases hy with hy | hy
   · exact jo hy
   · exact absurd rfl (S.nofree _ (PySem.mem_of_lookup hy))
 · exact Nat.le_of_lt (x.above y c (PySem.mem_of_lookup h))
 · have hi : i < vs.length := by
    unfold start at h2
    by_cases hi : i < vs.length
    · exact hi
    · rw [List.getElem?_append_right (by simpa using hi)] at h2
      rw [List.getElem?_replicate] at h2
      split at h2 <;> cases h2
   have ha : vs[i]? = some v := by
    unfold start at h2
    rw [List.getElem?_append_left (by simpa using hi), List.getElem?_map] at h2
    cases e : vs[i]? with
    | none => rw [e] at h2; cases h2
    | some a => rw [e] at h2; cases h2; rfl
   obtain ⟨u, hu, rv⟩ := r.get ha
   have hp : ps[i]? = some y := by
    rw [← S.pre, List.getElem?_take_of_lt (by omega)]; exact h1
   have ndP : ps.Nodup := by rw [← S.pre]; exact S.nd.sublist (List.take_sublist _ _)
   refine ⟨u, rv, ?_⟩
   rcases S.par y (List.mem_of_getElem? hp) with k | k
   · exact .inl ⟨k, gD ndP hp hu k⟩
   · obtain ⟨c, e⟩ := jo (n := s.heap.objs.size + 1) k
     refine .inr ⟨.inl k, c, e, ?_⟩
     have q := x.cell y c e
     rw [gE ndP hp hu (by show scope.names.lookup y ≠ _; rw [k]; decide)] at q
     exact q
 · exact e0.hok.fresh (Nat.le_of_lt (x.above y c (PySem.mem_of_lookup h)))
 · unfold start
   show _ = N.length
   rw [List.length_append, List.length_map, List.length_replicate]
   omega
theorem uf {CX : CXT} {P : Program} {w : World} {K : PySem.W.Frag} {mg : Str → Option Value} {base : Heap} {k : Nat} {f : Addr} {name qual : Str} {params : Arguments} {body : List Stmt} {scope : Scope} {dV kV doc pm cdv ct oc : Value} {an od : Option Addr}
 {osl : Array (Option Value)} {N ps : List Str} {sp : Sp} (lk : K.lookup f = some ⟨oc, od, .func (PySem.W.fnOf name qual params body scope dV kV doc pm an cdv ct), osl⟩) (hcd : PySem.W.codeIn K cdv qual = true) (S : bX N ps scope)
 (len : ∀ vs H Q E, sp vs H Q E → vs.length = ps.length)
 (hbody : ∀ (A : Around) (outer : List Env) (s : Shared) (H : Hp) (vs : List V) (Q : VK) (E : XK), Room k (A.deeper (envOfC qual scope s.heap.objs.size f cdv)) → sp vs H Q E →
   ∃ t, PSs (ik CX P w K mg base N qual scope f cdv A outer s H E) body t ∧ t { nx := fun _ H' => Q .non H', rt := Q } (start N vs) H) :
 FnOk P w K mg base CX (k + 1) f (PySem.W.fnOf name qual params body scope dV kV doc pm an cdv ct) ps sp := by
 refine ⟨len, fun A outer s H args us vs Q E hr e0 hb r hsp => ?_⟩
 have hl := len _ _ _ _ hsp
 have KX : K.In s.heap := e0.mod.kin.keeps fun b o e => (e0.bs b o e).1
 have lim : s.heap.NoLimit := e0.mod.nolimit.keeps fun b o e => (e0.bs b o e).1
 have hkind : ∀ y ∈ ps.zip us, scope.names.lookup y.1 = some .local ∨ (scope.names.lookup y.1 = some .cell ∧ ((cellsFrom (s.heap.objs.size + 1) scope.names []).lookup y.1).isSome = true) := fun ⟨n, v⟩ hy => by
  rcases S.par n (List.of_mem_zip hy).1 with q | q
  · exact .inl q
  · exact .inr ⟨q, PySem.W.cellsFrom_some _ _ _ (.inl q)⟩
 refine codeAny_call_function hr.depth (KX _ _ lk) rfl S.co S.gen rfl (PySem.W.codeRec_of KX hcd) (hb _ _ _ _ ?_)
 refine wpAny_newFunctionEnv_cells S.kind hkind fun env he s1 x => ?_
 subst he
 refine ⟨lim.keeps x.toInCall.keep, codeAny_func ?_⟩
 obtain ⟨t, ht, hq⟩ := hbody A outer s H vs Q E (hr.deeper _) hsp
 have I : Inv (ik CX P w K mg base N qual scope f cdv A outer s H E) [] (start N vs) H s1 := gF S hr.hd e0 hl r x
 refine wpAny_mono (ht [] s1 (start N vs) H _ I hq) (fun fl s' hs => ?_) fun e s' hs => hs
 have fin : ∀ {σ' : St} {H' : Hp} {v : V} {u : Value}, Inv (ik CX P w K mg base N qual scope f cdv A outer s H E) [] σ' H' s' → RelV v u → Q v H' → CE outer P w H s Q u s' :=
  fun {σ' H' v u} J rv q => ⟨v, H', J.os, J.bare, J.base, J.hok, rv, q⟩
 cases fl with
 | ret u =>
  obtain ⟨v, σ', H', J, rv, q⟩ := hs
  exact fin J rv q
 | next =>
  obtain ⟨σ', H', J, q⟩ := hs
  exact fin (v := V.non) (u := Value.none) J rfl q
 | brk =>
  obtain ⟨_, _, _, q⟩ := hs
  exact False.elim q
 | cont =>
  obtain ⟨_, _, _, q⟩ := hs
  exact False.elim q
section
variable {X : Cx} {x : Str} {p pos : Pos} {e : Expr} {es : List Expr} {t : TA} {id T : String} {r : List V → Hp → VK → Prop}
def tCB (r : List V → Hp → VK → Prop) (t : TA) : TE := fun σ H Q => t σ H fun vs H1 => r vs H1 Q
theorem cR (hc : CallR X (.builtin id) r) (hg : Gl X x) (hm : X.mg x = none) (hv : bootBuiltins x = some (.builtin id)) (ha : PA X (e :: es) t) (hn : x ≠ "__name__" := by decide) (hdb : (x == ("__debug__" : Str)) = false := by decide)
 (he : starEach (e :: es) X.env = (false, eval e X.env) :: starEach es X.env := by rfl) (hpl : (backTo pos (starEach es X.env)).any (·.1) = false := by rfl) : PE X (.Call (.Name x p) (e :: es) [] pos) (tCB r t) := by
 intro pins s σ H Q I h
 refine wpAny_Call_Name_kw (ji I hg hm hv ?_ hn hdb)
 exact PyProof.Rows.callWith_builtin1 (thn (ha pos pins s σ H _ I h) fun us s1 ⟨vs, H1, I1, r1, q1⟩ => hc pins s1 σ H1 vs us Q I1 r1 q1) he hpl
theorem gG (hc : CallR X (.type T) r) (hg : Gl X x) (hm : X.mg x = none) (hv : bootBuiltins x = some (.type T)) (ha : PA X (e :: es) t) (hn : x ≠ "__name__" := by decide) (hdb : (x == ("__debug__" : Str)) = false := by decide)
 (he : starEach (e :: es) X.env = (false, eval e X.env) :: starEach es X.env := by rfl) (hpl : (backTo pos (starEach es X.env)).any (·.1) = false := by rfl) : PE X (.Call (.Name x p) (e :: es) [] pos) (tCB r t) := by
 intro pins s σ H Q I h
 refine wpAny_Call_Name_kw (ji I hg hm hv ?_ hn hdb)
 exact PyProof.Rows.callWith_type1 (thn (ha pos pins s σ H _ I h) fun us s1 ⟨vs, H1, I1, r1, q1⟩ => hc pins s1 σ H1 vs us Q I1 r1 q1) he hpl
end
end L2
namespace HT
open PySem PyProof.Rows
section
open PySem.SeqAt
open PySem.AutoSeq1 (wpAny_loadPart')
open PySem.MeetsSeq PySem.MeetsSeq2 PySem.MeetsSeq3
end
section
variable {prog : Program} {w : World} {A : Around} {E : Value → Shared → Prop} {s : Shared}
theorem cat_tup {t b : Addr} {vs ws : List Value} {Q : Value → Shared → Prop} (ht : IsTup s.heap t vs.toArray) (hb : IsTup s.heap b ws.toArray) (hv : vs ≠ [])
 (h1 : ws = [] → Q (.ref t) s) (h2 : ws ≠ [] → Q (.ref s.heap.objs.size) { s with heap := s.heap.push { cls := .type "tuple", data := .seq (vs ++ ws).toArray } })
 (hsz : vs.length + ws.length ≤ sizeLine) : wpAny (model prog w) A (binaryOp .Add (.ref t) (.ref b)) Q E s := by
 obtain ⟨⟨cls, dd, data, sl⟩, ho, hc, n, hd⟩ := id ht
 obtain ⟨⟨cls2, dd2, data2, sl2⟩, ho2, hc2, n2, hd2⟩ := id hb
 simp only at hc hd hc2 hd2
 subst hc hd hc2 hd2
 have e : vs.toArray ++ ws.toArray = (vs ++ ws).toArray := by simp
 by_cases hw : ws = []
 · exact concat_meets ⟨_, ho, rfl⟩ ⟨_, ho2, rfl⟩ noFill_tuple_add seq_tuple_add PySem.F.slot_tuple_add PySem.F.entry_tuple_add (PySem.F.args_tuple_add_2 _ _)
    (tuple_addW1 t b vs.toArray ws.toArray n n2 dd dd2 sl sl2 (by simpa using hv) (by simp [hw])) ⟨ho, ho2, h1 hw⟩
 · refine concat_meets ⟨_, ho, rfl⟩ ⟨_, ho2, rfl⟩ noFill_tuple_add seq_tuple_add PySem.F.slot_tuple_add PySem.F.entry_tuple_add (PySem.F.args_tuple_add_2 _ _)
    (tuple_addW2 t b vs.toArray ws.toArray n n2 dd dd2 sl sl2 (by simpa using hv) (by simpa using hw) (by rw [List.size_toArray, List.size_toArray]; exact hsz)) ⟨ho, ho2, ?_⟩
   rw [e]
   exact h2 hw
def sIx (n d : Nat) : Option Int → Nat
 | none => d
 | some v => if v < 0 then (v + (n : Int)).toNat else min v.toNat n
theorem ug (n d : Nat) (hd : d ≤ n) (o : Option Int) : sIx n d o ≤ n := by
 cases o with
 | none => exact hd
 | some v =>
  show (if v < 0 then (v + (n : Int)).toNat else min v.toNat n) ≤ n
  by_cases hv : v < 0
  · rw [if_pos hv]; omega
  · rw [if_neg hv]; exact Nat.min_le_right _ _
theorem k7 (v : Int) (n d : Nat) : (if v < 0 then max (v + (n : Int)) 0 else min v (n : Int)) = ((sIx n d (some v) : Nat) : Int) := by
 show (if v < 0 then max (v + (n : Int)) 0 else min v (n : Int)) = (((if v < 0 then (v + (n : Int)).toNat else min v.toNat n) : Nat) : Int)
 by_cases hv : v < 0
 · simp only [if_pos hv]; omega
 · simp only [if_neg hv]; omega
theorem kg (lo hi : Option Int) (n : Nat) : Builtin.Slice.sliceAdjust lo hi 1 (n : Int) = (((sIx n 0 lo : Nat) : Int), ((sIx n n hi : Nat) : Int)) := by
 have h1 : ¬ ((1 : Int) < 0) := by omega
 unfold Builtin.Slice.sliceAdjust
 simp only [h1, if_false]
 refine Prod.ext ?_ ?_
 · cases lo with
   | none => rfl
   | some v => exact k7 v n 0
 · cases hi with
   | none => rfl
   | some v => exact k7 v n n
theorem kh (i j : Nat) : Builtin.Slice.slicePlaces (i : Int) (j : Int) 1 = j - i := by
 unfold Builtin.Slice.slicePlaces
 have h1 : (1 : Int) > 0 := by omega
 simp only [h1, if_true, Int.ediv_one]
 split <;> omega
theorem eZ {v : Value} {o : Option Int} {Q : Option Int → Shared → Prop} (p : IsPart v o) (h : Q o s) : wpAny (model prog w) A (Builtin.Slice.slicePartIndex v) Q E s := by
 cases p with
 | none => exact slicePart_none h
 | int i t => exact slicePart_int h
theorem sliceApplied_gen {sl : Addr} {vl vu : Value} {lo hi : Option Int} {n : Nat} {Q : Int × Int × Nat → Shared → Prop} (hs : s.heap.IsSliceOf sl vl vu .none) (pl : IsPart vl lo) (pu : IsPart vu hi)
 (h : Q (((sIx n 0 lo : Nat) : Int), 1, sIx n n hi - sIx n 0 lo) s) : wpAny (model prog w) A (Builtin.Slice.sliceApplied (.ref sl) (pure (n : Int))) Q E s := by
 obtain ⟨os, hos, hcs, hds⟩ := id hs
 unfold Builtin.Slice.sliceApplied Builtin.Slice.sliceFields
 refine wpAny_bind (wpAny_bind (wpAny_field hos hds (x := vl) rfl (wpAny_bind (wpAny_field hos hds (x := vu) rfl (wpAny_bind (wpAny_field hos hds (x := .none) rfl (wpAny_pure ?_)))))))
 refine wpAny_bind (slicePart_none ?_)
 show wpAny _ _ (if ((1 : Int) == 0) = true then _ else _) _ _ s
 rw [if_neg (by decide)]
 refine wpAny_bind (eZ pl (wpAny_bind (eZ pu (wpAny_bind (wpAny_pure ?_)))))
 show wpAny _ _ (match Builtin.Slice.sliceAdjust lo hi 1 (n : Int) with | (lo, hi) => pure (lo, (1 : Int), Builtin.Slice.slicePlaces lo hi 1)) _ _ s
 rw [kg lo hi n]
 show wpAny _ _ (pure (((sIx n 0 lo : Nat) : Int), (1 : Int), Builtin.Slice.slicePlaces ((sIx n 0 lo : Nat) : Int) ((sIx n n hi : Nat) : Int) 1)) _ _ s
 rw [kh]
 exact wpAny_pure h
theorem nJ (xs : Array Value) (i k : Nat) : ((List.range k).filterMap fun (m : Nat) => xs[((i : Int) + (m : Int) * 1).toNat]?).toArray = ((xs.toList.drop i).take k).toArray := by
 have e : (fun (m : Nat) => xs[((i : Int) + (m : Int) * 1).toNat]?) = fun m => xs[i + m]? := by
  funext m
  have : ((i : Int) + (m : Int) * 1).toNat = i + m := by omega
  rw [this]
 rw [e]
 have := pick_run xs i k
 rw [List.filterMap_map] at this
 have e2 : ((fun x => xs[x]?) ∘ fun x => i + x) = fun m => xs[i + m]? := rfl
 rw [e2] at this
 rw [this]
theorem getItem_tuple_cut {t sl : Addr} {items : Array Value} {vl vu : Value} {lo hi : Option Int} {Q : Value → Shared → Prop} (ht : IsTup s.heap t items) (hs : s.heap.IsSliceOf sl vl vu .none) (pl : IsPart vl lo) (pu : IsPart vu hi)
 (hw : ¬ (sIx items.size 0 lo = 0 ∧ sIx items.size items.size hi = items.size))
 (h : Q (.ref s.heap.objs.size) { s with heap := s.heap.push { cls := .type "tuple", data := .seq ((items.toList.drop (sIx items.size 0 lo)).take (sIx items.size items.size hi - sIx items.size 0 lo)).toArray } })
 (hsz : items.size ≤ sizeLine) : wpAny (model prog w) A (getItem (.ref t) (.ref sl)) Q E s := by
 have htake : sizeOk (.seq ((items.toList.drop (sIx items.size 0 lo)).take (sIx items.size items.size hi - sIx items.size 0 lo)).toArray) := by
  show ((items.toList.drop (sIx items.size 0 lo)).take (sIx items.size items.size hi - sIx items.size 0 lo)).toArray.size ≤ sizeLine
  rw [List.size_toArray, List.length_take, List.length_drop, Array.length_toList]
  omega
 have hj : sIx items.size items.size hi ≤ items.size := ug _ _ (Nat.le_refl _) hi
 obtain ⟨os, hos, hcs, hds⟩ := id hs
 have hTs : s.TypeIs (.ref sl) "slice" := ⟨os, hos, hcs⟩
 unfold getItem
 try with_reducible refine wpAny_holding ?_
 first | refine wpAny_bind (wpAny_pure ?_) | skip
 refine wpAny_bind (wpAny_sequenceKey ht.typeIs (by decide) ?_)
 refine wpAny_bind (wpAny_callSpecial?_slot (name := Str.ofString "__getitem__") ht.typeIs PyProof.Rows.slot_tuple_getitem
  (wpAny_call_entry PyProof.Rows.slot_tuple_getitem ht.typeIs entry_tuple_getitem ?_ (args_tuple_getitem _ _)))
 show wpAny _ _ (Builtin.Tuple.tupleItemsOf (.ref t) >>= _) _ _ s
 refine wpAny_bind (tupleItemsOf_ ht ?_)
 refine wpAny_bind (wpAny_typeOf hTs ?_)
 rw [if_pos (by decide)]
 refine wpAny_bind (sliceApplied_gen hs pl pu ?_)
 have hno : ¬ ((((sIx items.size 0 lo : Nat) : Int) == 0 && (1 : Int) == 1 && (sIx items.size items.size hi - sIx items.size 0 lo) == items.size) = true) := by
  intro q
  rw [Bool.and_eq_true, Bool.and_eq_true] at q
  have q1 : ((sIx items.size 0 lo : Nat) : Int) = 0 := eq_of_beq q.1.1
  have q2 : sIx items.size items.size hi - sIx items.size 0 lo = items.size := eq_of_beq q.2
  exact hw ⟨by omega, by omega⟩
 show wpAny _ _ (if (((sIx items.size 0 lo : Nat) : Int) == 0 && (1 : Int) == 1 && (sIx items.size items.size hi - sIx items.size 0 lo) == items.size) = true then _ else _) _ _ s
 rw [if_neg hno, nJ]
 first
  | exact wpAny_bind (m := Builtin.Tuple.tupleExact _) (wpAny_newObj_type (wpAny_pure ⟨_, rfl, wpAny_pure h⟩) htake)
  | exact wpAny_bind (m := Builtin.Tuple.tupleExact _) (wpAny_newObj_type (wpAny_bind (wpAny_pure (wpAny_pure ⟨_, rfl, wpAny_pure h⟩))) htake)
  | exact wpAny_bind (wpAny_bind (m := Builtin.Tuple.tupleExact _) (wpAny_newObj_type (wpAny_pure (wpAny_pure ⟨_, rfl, wpAny_pure h⟩)) htake))
  | exact wpAny_bind (wpAny_bind (m := Builtin.Tuple.tupleExact _) (wpAny_newObj_type (wpAny_pure ⟨_, rfl, wpAny_pure h⟩) htake))
end
end HT
namespace L2
open PySem PySem.Spec PyProof.Rows
abbrev TO := St → Hp → (Option Int → Hp → Prop) → Prop
def PO (X : Cx) (e : Option Expr) (t : TO) : Prop :=
 ∀ (pins : List (Addr × Obj)) (s : Shared) (σ : St) (H : Hp) (Q : Option Int → Hp → Prop), Inv X pins σ H s → t σ H Q →
  wpAny (model X.prog X.w) X.A (evalPart e X.env) (fun u s' => ∃ o H', Inv X pins σ H' s' ∧ IsPart u o ∧ Q o H') X.xe s
def qK : TO := fun _ H Q => Q none H
def xU (t : TE) : TO := fun σ H Q => t σ H fun x H1 => ∃ i, x = .int i ∧ Q (some i) H1
section
variable {X : Cx} {e : Expr} {te : TE} {lo hi : Option Expr} {tl th : TO} {pos p2 : Pos}
theorem qL : PO X none qK := by
 intro pins s σ H Q I h
 rw [evalPart_none]
 exact wpAny_pure ⟨none, H, I, .none, h⟩
theorem qM (h : PE X e te) : PO X (some e) (xU te) := by
 intro pins s σ H Q I hw
 rw [evalPart_some]
 refine thn (h pins s σ H _ I hw) fun u s1 ⟨x, H1, I1, r1, q1⟩ => ?_
 obtain ⟨i, rfl, q⟩ := q1
 obtain ⟨t, rfl⟩ := r1
 exact ⟨some i, H1, I1, .int i t, q⟩
def SlR (X : Cx) (r : V → Option Int → Option Int → Hp → VK → Prop) : Prop :=
 ∀ (pins : List (Addr × Obj)) (s : Shared) (σ : St) (H : Hp) (x : V) (v vl vu : Value) (lo hi : Option Int) (sl : Addr) (Q : VK), Inv X pins σ H s → RelV x v → s.heap.IsSliceOf sl vl vu .none → IsPart vl lo → IsPart vu hi → r x lo hi H Q →
  ∃ T id, typeLookup (.type T) "__getitem__" = pure (some (.builtin id)) ∧ s.TypeIs v T ∧ wpAny (model X.prog X.w) X.A (getItem v (.ref sl)) (EP X pins σ Q) X.xe s
theorem SlR.or {r r' : V → Option Int → Option Int → Hp → VK → Prop} (h : SlR X r) (h' : SlR X r') : SlR X (fun x lo hi H Q => r x lo hi H Q ∨ r' x lo hi H Q) := by
 intro pins s σ H x v vl vu lo hi sl Q I rx hs pl pu q
 rcases q with q | q
 · exact h pins s σ H x v vl vu lo hi sl Q I rx hs pl pu q
 · exact h' pins s σ H x v vl vu lo hi sl Q I rx hs pl pu q
def tSl (r : V → Option Int → Option Int → Hp → VK → Prop) (te : TE) (tl th : TO) : TE := fun σ H Q => te σ H fun x H1 => tl σ H1 fun l H2 => th σ H2 fun u H3 => r x l u H3 Q
theorem jp {r : V → Option Int → Option Int → Hp → VK → Prop} (hr : SlR X r) (he : PE X e te) (hl : PO X lo tl) (hu : PO X hi th) : PE X (.Subscript e (.Slice lo hi none p2) pos) (tSl r te tl th) := by
 intro pins s σ H Q I h
 refine Subscript_ (thn (he pins s σ H _ I h) fun v s1 ⟨x, H1, I1, r1, q1⟩ => ?_)
 refine wpAny_Slice (thn (hl pins s1 σ H1 _ I1 q1) fun vl s2 ⟨l, H2, I2, pl, q2⟩ => thn (hu pins s2 σ H2 _ I2 q2) fun vu s3 ⟨u, H3, I3, pu, q3⟩ => ?_)
 rw [evalPart_none]
 refine wpAny_pure ?_
 have I4 : Inv X pins σ H3 { s3 with heap := s3.heap.push { cls := .type "slice", data := .fields #[vl, vu, .none] } } := I3.kept (t' := s3.toks) fun b ob q => Heap.get?_push_of_some _ q
 obtain ⟨T, id, hT, ht, hg⟩ := hr pins { s3 with heap := s3.heap.push { cls := .type "slice", data := .fields #[vl, vu, .none] } } σ H3 x v vl vu l u s3.heap.objs.size Q I4 r1 (Heap.IsSliceOf.new ..) pl pu q3
 show wpAny (model X.prog X.w) X.A (subscriptTail e (.Slice lo hi none p2) v (.ref s3.heap.objs.size)) (EP X pins σ Q) X.xe { s3 with heap := s3.heap.push { cls := .type "slice", data := .fields #[vl, vu, .none] } }
 exact tail_any (ops := [.ref s3.heap.objs.size, v]) ht hT hg (by with_unfolding_all rfl)
def nK (xs : List V) (lo hi : Option Int) : List V := (xs.drop (HT.sIx xs.length 0 lo)).take (HT.sIx xs.length xs.length hi - HT.sIx xs.length 0 lo)
theorem eh (xs : List V) (lo hi : Option Int) : (nK xs lo hi).length ≤ xs.length := by
 unfold nK
 rw [List.length_take, List.length_drop]
 omega
def zU (K : PySem.W.Frag) : V → Option Int → Option Int → Hp → VK → Prop := fun x lo hi H Q => ∃ a xs, x = .ref a ∧ SqT K H a xs ∧
 ¬ (HT.sIx xs.length 0 lo = 0 ∧ HT.sIx xs.length xs.length hi = xs.length) ∧ ∀ p, H p = none → Q (.ref p) (upd H p (.tup (nK xs lo hi)))
theorem sl_tup : SlR X (zU X.K) := by
 intro pins s σ H x v vl vu lo hi sl Q I rx hs pl pu h
 obtain ⟨a, xs, rfl, hx, hw, q⟩ := h
 cases rx
 obtain ⟨its, r, ht, hz⟩ := I.tuple hx
 have hlen : its.toArray.size = xs.length := by rw [List.size_toArray]; exact r.length.symm
 refine ⟨"tuple", _, PyProof.Rows.slot_tuple_getitem.lookup, ht.typeIs, ?_⟩
 refine HT.getItem_tuple_cut ht hs pl pu (by rw [hlen]; exact hw) ?_ (by rw [hlen]; exact hz)
 rw [hlen]
 refine ⟨.ref s.heap.objs.size, _, I.laid (t' := s.toks) (o := .tup (nK xs lo hi)) (fun b ob q => Heap.get?_push_of_some _ q) (Nat.le_refl _) ?_, rfl, q _ (I.hok.fresh (Nat.le_refl _))⟩
 exact ⟨Nat.le_trans (eh xs lo hi) hz, _, (r.drop (HT.sIx xs.length 0 lo)).take (HT.sIx xs.length xs.length hi - HT.sIx xs.length 0 lo), IsTup.new _ _⟩
def uh (K : PySem.W.Frag) : R2 := fun x y H Q => ∃ a b xs ys, x = .ref a ∧ y = .ref b ∧ SqT K H a xs ∧ SqT K H b ys ∧ xs ≠ [] ∧ xs.length + ys.length ≤ sizeLine ∧
 (ys = [] → Q (.ref a) H) ∧ (ys ≠ [] → ∀ p, H p = none → Q (.ref p) (upd H p (.tup (xs ++ ys))))
theorem Vals.nil_iff {xs : List V} {us : List Value} (r : Vals xs us) : us = [] ↔ xs = [] := by
 cases r with
 | nil => simp
 | cons _ _ => simp
theorem op_catT : OpR X (binaryOp .Add) (uh X.K) := by
 intro pins s σ H x y v u Q I rx ry h
 obtain ⟨a, b, xs, ys, rfl, rfl, ha, hb, hx, hz, q1, q2⟩ := h
 cases rx
 cases ry
 obtain ⟨its, r1, p1, _⟩ := I.tuple ha
 obtain ⟨its2, r2, p2, _⟩ := I.tuple hb
 refine HT.cat_tup p1 p2 (fun z => hx (r1.nil_iff.mp z)) (fun z => ⟨.ref a, H, I, rfl, q1 (r2.nil_iff.mp z)⟩) (fun z => ?_) (by rw [← r1.length, ← r2.length]; exact hz)
 refine ⟨.ref s.heap.objs.size, _, I.laid (t' := s.toks) (o := .tup (xs ++ ys)) (fun b ob q => Heap.get?_push_of_some _ q) (Nat.le_refl _) ?_, rfl, q2 (fun w => z (r2.nil_iff.mpr w)) _ (I.hok.fresh (Nat.le_refl _))⟩
 exact ⟨by rw [List.length_append]; exact hz, _, r1.append r2, IsTup.new _ _⟩
end
def ixN (n : Nat) (i : Int) : Option Nat := if 0 ≤ i then (if i < n then some i.toNat else none) else if -(n : Int) ≤ i then some (i + n).toNat else none
def atI {α : Type} (xs : List α) (i : Int) : Option α := (ixN xs.length i).bind fun j => xs[j]?
theorem k8 {n : Nat} {i : Int} {j : Nat} (h : ixN n i = some j) : seqIndex? i n = some j ∧ j < n ∧ -(n : Int) ≤ i ∧ i < n := by
 unfold ixN at h
 by_cases h0 : 0 ≤ i
 · rw [if_pos h0] at h
   by_cases h1 : i < n
   · rw [if_pos h1] at h
     have e : i.toNat = j := Option.some.inj h
     exact ⟨by rw [seqIndex_of h0 h1, e], by omega, by omega, h1⟩
   · rw [if_neg h1] at h; cases h
 · rw [if_neg h0] at h
   by_cases h1 : -(n : Int) ≤ i
   · rw [if_pos h1] at h
     have e : (i + n).toNat = j := Option.some.inj h
     exact ⟨by rw [seqIndex_neg (by omega) h1, e], by omega, h1, by omega⟩
   · rw [if_neg h1] at h; cases h
theorem iA {α : Type} {xs : List α} {i : Int} {v : α} (h : atI xs i = some v) : ∃ j, seqIndex? i xs.length = some j ∧ xs[j]? = some v ∧ j < xs.length ∧ -(xs.length : Int) ≤ i ∧ i < xs.length := by
 unfold atI at h
 cases e : ixN xs.length i with
 | none => rw [e] at h; cases h
 | some j =>
  rw [e] at h
  obtain ⟨h1, h2, h3, h4⟩ := k8 e
  exact ⟨j, h1, h, h2, h3, h4⟩
def k9 (b : Expr) : Prop := ∀ o i, subscripted b false o i = operate [o, i] (getItem o i)
def IxR (X : Cx) (r : R2) : Prop :=
 ∀ (value slice : Expr) (pins : List (Addr × Obj)) (s : Shared) (σ : St) (H : Hp) (x y : V) (v u : Value) (Q : VK), Inv X pins σ H s → RelV x v → RelV y u → r x y H Q →
  subscripted slice false v u = operate [v, u] (getItem v u) → wpAny (model X.prog X.w) X.A (subscriptTail value slice v u) (EP X pins σ Q) X.xe s
def MtR (X : Cx) (id : String) (r : V → List V → Hp → VK → Prop) : Prop :=
 ∀ (pins : List (Addr × Obj)) (s : Shared) (σ : St) (H : Hp) (x : V) (xs : List V) (v : Value) (us : List Value) (Q : VK), Inv X pins σ H s → RelV x v → Vals xs us → r x xs H Q →
  wpAny (model X.prog X.w) X.A (call (.builtin id) (v :: us)) (EP X pins σ Q) X.xe s
section
variable {X : Cx} {a b : Expr} {ta tb : TE} {pos : Pos}
theorem IxR.or {r r' : R2} (h : IxR X r) (h' : IxR X r') : IxR X (fun x y H Q => r x y H Q ∨ r' x y H Q) := by
 intro value slice pins s σ H x y v u Q I rx ry q hs
 rcases q with q | q
 · exact h value slice pins s σ H x y v u Q I rx ry q hs
 · exact h' value slice pins s σ H x y v u Q I rx ry q hs
theorem MtR.or {id : String} {r r' : V → List V → Hp → VK → Prop} (h : MtR X id r) (h' : MtR X id r') : MtR X id (fun x xs H Q => r x xs H Q ∨ r' x xs H Q) := by
 intro pins s σ H x xs v us Q I rx rs q
 rcases q with q | q
 · exact h pins s σ H x xs v us Q I rx rs q
 · exact h' pins s σ H x xs v us Q I rx rs q
theorem xV {r : R2} (hr : IxR X r) (ha : PE X a ta) (hb : PE X b tb) (hs : k9 b) : PE X (.Subscript a b pos) (tOp r ta tb) := by
 intro pins s σ H Q I h
 exact Subscript_ (xO ha hb I h fun v u s2 x y H2 I2 rx ry q => hr a b pins s2 σ H2 x y v u Q I2 rx ry q (hs _ _))
def zf (K : PySem.W.Frag) : R2 := fun x y H Q => ∃ p xs i v, x = .ref p ∧ y = .int i ∧ SqL K H p xs ∧ atI xs i = some v ∧ Q v H
def zg (K : PySem.W.Frag) : R2 := fun x y H Q => ∃ p xs i v, x = .ref p ∧ y = .int i ∧ SqT K H p xs ∧ atI xs i = some v ∧ Q v H
def zh : R2 := fun x y H Q => ∃ z i c, x = .str z ∧ y = .int i ∧ z.length ≤ sizeLine ∧ atI z.cps.toList i = some c ∧ Q (.str ⟨#[c]⟩) H
theorem ix_list : IxR X (zf X.K) := by
 intro value slice pins s σ H x y v u Q I rx ry h hs
 obtain ⟨p, xs, i, z, rfl, rfl, hq, he, q⟩ := h
 cases rx
 obtain ⟨t, rfl⟩ := ry
 obtain ⟨its, r, pl, hz⟩ := I.list hq
 obtain ⟨j, h1, h2, h3, h4, h5⟩ := iA he
 obtain ⟨w, ew, rw'⟩ := r.get h2
 have hl := r.length
 have hn := gA
 have fin : EP X pins σ Q w s := ⟨z, H, I, rw', q⟩
 by_cases h0 : 0 ≤ i
 · have hj : i.toNat = j := by
    rw [seqIndex_of h0 h5] at h1
    exact Option.some.inj h1
   exact item_listR pl.isList h0 (by omega) (by rw [hj]; simpa using ew) fin hs
 · have hj : (i + (its.toArray.size : Int)).toNat = j := by
    rw [seqIndex_neg (by omega) h4] at h1
    rw [List.size_toArray, ← hl]
    exact Option.some.inj h1
   exact subscriptTail_builtinR (x := w) pl.isList.typeIs slot_list_getitem.lookup
    (wpAny_getItem_list_neg (Q := fun r s' => r = w ∧ EP X pins σ Q r s') pl.isList (by omega) (by rw [List.size_toArray] <;> omega) (by omega) (by rw [hj]; simpa using ew) ⟨rfl, fin⟩) hs
theorem ix_tup : IxR X (zg X.K) := by
 intro value slice pins s σ H x y v u Q I rx ry h hs
 obtain ⟨p, xs, i, z, rfl, rfl, hq, he, q⟩ := h
 cases rx
 obtain ⟨t, rfl⟩ := ry
 obtain ⟨its, r, pl, hz⟩ := I.tuple hq
 obtain ⟨j, h1, h2, h3, h4, h5⟩ := iA he
 obtain ⟨w, ew, rw'⟩ := r.get h2
 have hl := r.length
 have hn := gA
 have fin : EP X pins σ Q w s := ⟨z, H, I, rw', q⟩
 exact subscriptTail_builtinR (x := w) pl.typeIs slot_tuple_getitem.lookup
  (getItem_tuple (j := j) (Q := fun r s' => r = w ∧ EP X pins σ Q r s') pl (by omega) (by omega) (by rw [List.size_toArray, ← hl]; exact h1) (by simpa using ew) ⟨rfl, fin⟩) hs
theorem ui : IxR X zh := by
 intro value slice pins s σ H x y v u Q I rx ry h hs
 obtain ⟨z, i, c, rfl, rfl, hz, he, q⟩ := h
 obtain ⟨t, rfl⟩ := rx
 obtain ⟨t', rfl⟩ := ry
 obtain ⟨j, h1, h2, h3, h4, h5⟩ := iA he
 have hl : z.cps.toList.length = z.length := by simp [Str.length]
 rw [hl] at h1 h4 h5
 have hn := gA
 exact tail_any (typeIs_str s z t) slot_str_getitem.lookup (getItem_str (c := c) (by
  have e1 : decide (i < -(2 ^ 63 : Int)) = false := decide_eq_false (by omega)
  have e2 : decide (i ≥ 2 ^ 63) = false := decide_eq_false (by omega)
  rw [e1, e2, Bool.or_false]) (by rw [h1]; simpa using h2) ⟨.str ⟨#[c]⟩, H, I.tok _, ⟨_, rfl⟩, q⟩) hs
def rIx (K : PySem.W.Frag) : R2 := fun x y H Q => zf K x y H Q ∨ zg K x y H Q ∨ zh x y H Q
theorem uj : IxR X (rIx X.K) := ix_list.or (ix_tup.or ui)
theorem ki (its : List Value) (n j : Nat) (u : Value) : Obj.mapSeq (·.setIfInBounds j u) { cls := .type "list", data := .seq its.toArray n } = { cls := .type "list", data := .seq (its.set j u).toArray n } := by
 simp [Obj.mapSeq]
theorem Inv.lst {pins : List (Addr × Obj)} {σ : St} {H : Hp} {s : Shared} {p : Addr} {xs : List V} (I : Inv X pins σ H s) (h : H p = some (.lst xs)) :
 ∃ (its : List Value) (n : Nat), Vals xs its ∧ s.heap.get? p = some { cls := .type "list", data := .seq its.toArray n } ∧ xs.length ≤ sizeLine := by
 obtain ⟨z, its, n, r, e⟩ := I.hok p _ h
 exact ⟨its, n, r, e, z⟩
theorem Inv.lstUpd {pins : List (Addr × Obj)} {σ : St} {H : Hp} {s : Shared} {p : Addr} {xs ys : List V} {its its' : List Value} {n n' : Nat} {f : Obj → Obj} (I : Inv X pins σ H s) (h : H p = some (.lst xs))
 (ho : s.heap.get? p = some { cls := .type "list", data := .seq its.toArray n }) (hf : f { cls := .type "list", data := .seq its.toArray n } = { cls := .type "list", data := .seq its'.toArray n' }) (r : Vals ys its') (hz : ys.length ≤ sizeLine) (t : Nat) :
 Inv X pins σ (upd H p (.lst ys)) { s with heap := s.heap.update p f, toks := t } := by
 have e : (s.heap.update p f).get? p = some { cls := .type "list", data := .seq its'.toArray n' } := by
  rw [Heap.get?_update_self f ho (by rw [hf] <;> rfl), hf]
 refine I.write (x := p) (e := p) (by rw [h]; trivial) (.inl rfl) (fun b u hb q => (Heap.get?_update_other _ _ (Ne.symm hb)).trans q) ⟨_, e⟩ ?_
 exact ⟨hz, its', n', r, e⟩
def xW : V → V → V → Hp → (Hp → Prop) → Prop := fun o i v H Q => ∃ p xs k j, o = .ref p ∧ i = .int k ∧ H p = some (.lst xs) ∧ ixN xs.length k = some j ∧ Q (upd H p (.lst (xs.set j v)))
theorem nM : zb X xW := by
 intro pins s σ H o i v ov iv u Q I ro ri rv h
 obtain ⟨p, xs, k, j, rfl, rfl, hp, hj, q⟩ := h
 cases ro
 obtain ⟨t, rfl⟩ := ri
 obtain ⟨its, n, r, ho, hz⟩ := I.lst hp
 obtain ⟨h1, h2, h3, h4⟩ := k8 hj
 have hl := r.length
 have hn := gA
 have I' : Inv X pins σ (upd H p (.lst (xs.set j v))) { s with heap := s.heap.update p (Obj.mapSeq (·.setIfInBounds j u)) } :=
  I.lstUpd hp ho (ki its n j u) (r.set rv j) (by rw [List.length_set]; exact hz) s.toks
 by_cases h0 : 0 ≤ k
 · have hk : k.toNat = j := by
    rw [seqIndex_of h0 h4] at h1
    exact Option.some.inj h1
   exact PySem.W.ki_setAt ho h0 (by omega) (by rw [List.size_toArray, ← hl]; exact h4) (by rw [hk]; exact ⟨_, I', q⟩)
 · have hk : (k + (its.toArray.size : Int)).toNat = j := by
    rw [seqIndex_neg (by omega) h3] at h1
    rw [List.size_toArray, ← hl]
    exact Option.some.inj h1
   exact PySem.W.ki_setBack ho (by omega) (by rw [List.size_toArray, ← hl]; exact h3) (by omega) (by rw [hk]; exact ⟨_, I', q⟩)
theorem gH (lo hi : Option Int) (n : Nat) : (sliceBounds lo hi none n).1 = ((HT.sIx n 0 lo : Nat) : Int) ∧ (sliceBounds lo hi none n).2.1 = ((HT.sIx n n hi : Nat) : Int) ∧ (sliceBounds lo hi none n).2.2 = 1 := by
 refine ⟨?_, ?_, rfl⟩
 · cases lo with
   | none => simp [sliceBounds, HT.sIx]
   | some i =>
    simp only [sliceBounds, HT.sIx, Option.getD_none, show (1 : Int) > 0 by decide, if_true]
    by_cases h : i < 0
    · simp only [h, if_true] <;> omega
    · simp only [h, if_false] <;> omega
 · cases hi with
   | none => simp [sliceBounds, HT.sIx]
   | some i =>
    simp only [sliceBounds, HT.sIx, Option.getD_none, show (1 : Int) > 0 by decide, if_true]
    by_cases h : i < 0
    · simp only [h, if_true] <;> omega
    · simp only [h, if_false] <;> omega
theorem fK (its : List Value) (lo hi : Option Int) : slicePick its.toArray lo hi none = ((its.drop (HT.sIx its.length 0 lo)).take (HT.sIx its.length its.length hi - HT.sIx its.length 0 lo)).toArray := by
 obtain ⟨h1, h2, h3⟩ := gH lo hi its.toArray.size
 unfold slicePick
 rw [h1, h2, h3]
 simp only [sliceRange_one, pick_run, List.size_toArray] <;> rfl
def zV (K : PySem.W.Frag) : V → Option Int → Option Int → Hp → VK → Prop := fun x lo hi H Q => ∃ a xs, x = .ref a ∧ SqL K H a xs ∧ ∀ p, H p = none → Q (.ref p) (upd H p (.lst (nK xs lo hi)))
theorem la : SlR X (zV X.K) := by
 intro pins s σ H x v vl vu lo hi sl Q I rx hs pl pu h
 obtain ⟨a, xs, rfl, hx, q⟩ := h
 cases rx
 obtain ⟨its, r, ht, hz⟩ := I.list hx
 have hlen := r.length
 refine ⟨"list", _, slot_list_getitem.lookup, ht.isList.typeIs, ?_⟩
 refine wpAny_getItem_list_slice ht.isList hs pl pu .none (by simp) ?_ (by rw [List.size_toArray] <;> omega)
 rw [fK, ← hlen]
 refine ⟨.ref s.heap.objs.size, _, I.laid (t' := s.toks) (o := .lst (nK xs lo hi)) (fun b ob q => Heap.get?_push_of_some _ q) (Nat.le_refl _) ?_, rfl, q _ (I.hok.fresh (Nat.le_refl _))⟩
 exact ⟨Nat.le_trans (eh xs lo hi) hz, _, 0, (r.drop (HT.sIx xs.length 0 lo)).take (HT.sIx xs.length xs.length hi - HT.sIx xs.length 0 lo), Heap.get?_push_size _ rfl⟩
def b6 : V → Bool
 | .non => true
 | .bl _ => true
 | .int _ => true
 | .str _ => true
 | _ => false
def eqV : V → V → Bool
 | .non, .non => true
 | .bl a, .bl b => a == b
 | .bl a, .int b => (if a then 1 else 0) == b
 | .int a, .bl b => a == (if b then 1 else 0)
 | .int a, .int b => a == b
 | .str a, .str b => a == b
 | _, _ => false
theorem ul {A : Around} {s : Shared} {y x : V} {u v : Value} (ry : RelV y u) (rx : RelV x v) (fy : b6 y = true) (fx : b6 x = true) : SeqAt.EqAt A s u v (eqV y x) := by
 cases y with
 | non =>
  cases ry
  cases x with
  | non => cases rx; exact SeqAt.EqAt.same _
  | bl b => cases rx; exact SeqAt.EqAt.none_bool b
  | int b => obtain ⟨t, rfl⟩ := rx; exact SeqAt.EqAt.none_int b t
  | str b => obtain ⟨t, rfl⟩ := rx; exact SeqAt.EqAt.none_str b t
  | _ => exact absurd (show false = true from fx) Bool.false_ne_true
 | bl a =>
  cases ry
  cases x with
  | non => cases rx; exact SeqAt.EqAt.bool_none a
  | bl b => cases rx; exact SeqAt.EqAt.bool_bool a b
  | int b => obtain ⟨t, rfl⟩ := rx; exact SeqAt.EqAt.bool_int a b t
  | str b => obtain ⟨t, rfl⟩ := rx; exact SeqAt.EqAt.bool_str a b t
  | _ => exact absurd (show false = true from fx) Bool.false_ne_true
 | int a =>
  obtain ⟨t', rfl⟩ := ry
  cases x with
  | non => cases rx; exact SeqAt.EqAt.int_none a t'
  | bl b => cases rx; exact SeqAt.EqAt.int_bool a t' b
  | int b => obtain ⟨t, rfl⟩ := rx; exact SeqAt.EqAt.int_int a t' b t
  | str b => obtain ⟨t, rfl⟩ := rx; exact SeqAt.EqAt.int_str a t' b t
  | _ => exact absurd (show false = true from fx) Bool.false_ne_true
 | str a =>
  obtain ⟨t', rfl⟩ := ry
  cases x with
  | non => cases rx; exact SeqAt.EqAt.str_none a t'
  | bl b => cases rx; exact SeqAt.EqAt.str_bool a t' b
  | int b => obtain ⟨t, rfl⟩ := rx; exact SeqAt.EqAt.str_int a t' b t
  | str b => obtain ⟨t, rfl⟩ := rx; exact SeqAt.EqAt.str_str a t' b t
  | _ => exact absurd (show false = true from fx) Bool.false_ne_true
 | _ => exact absurd (show false = true from fy) Bool.false_ne_true
def eqU (x : V) (u : Value) : Bool := match u with
 | .none => eqV .non x
 | .bool b => eqV (.bl b) x
 | .int i _ => eqV (.int i) x
 | .str z _ => eqV (.str z) x
 | _ => false
theorem jq {x y : V} {u : Value} (r : RelV y u) (f : b6 y = true) : eqU x u = eqV y x := by
 cases y with
 | non => cases r; rfl
 | bl b => cases r; rfl
 | int i => obtain ⟨t, rfl⟩ := r; rfl
 | str z => obtain ⟨t, rfl⟩ := r; rfl
 | _ => exact absurd (show false = true from f) Bool.false_ne_true
theorem ei {x : V} : ∀ {xs : List V} {us : List Value}, Vals xs us → xs.all b6 = true → us.any (eqU x) = xs.any fun y => eqV y x
 | _, _, .nil, _ => rfl
 | y :: xs, u :: us, .cons r t, f => by
  rw [List.all_cons, Bool.and_eq_true] at f
  rw [List.any_cons, List.any_cons, jq r f.1, ei t f.2]
theorem bY {A : Around} {s : Shared} {x : V} {v : Value} (rx : RelV x v) (fx : b6 x = true) : ∀ {xs : List V} {us : List Value}, Vals xs us → xs.all b6 = true → ∀ u ∈ us, SeqAt.EqAt A s u v (eqU x u)
 | _, _, .nil, _ => fun u hu => by cases hu
 | y :: xs, u :: us, .cons r t, f => fun u' hu => by
  rw [List.all_cons, Bool.and_eq_true] at f
  rcases List.mem_cons.mp hu with rfl | hu
  · rw [jq r f.1]; exact ul r rx f.1 fx
  · exact bY rx fx t f.2 u' hu
def inV (x : V) (xs : List V) : Bool := xs.any fun y => eqV y x
def rIn (K : PySem.W.Frag) (neg : Bool) : R2 := fun x y H Q => ∃ p xs, y = .ref p ∧ (SqL K H p xs ∨ SqT K H p xs) ∧ b6 x = true ∧ xs.all b6 = true ∧ Q (.bl (if neg then !inV x xs else inV x xs)) H
theorem lb : OpR X (compareOp .In) (rIn X.K false) := by
 intro pins s σ H x y v u Q I rx ry h
 obtain ⟨p, xs, rfl, hq, fx, fs, q⟩ := h
 cases ry
 rcases hq with hq | hq
 · obtain ⟨its, r, pl, hz⟩ := I.list hq
   refine SeqAt.in_listAt (eqU x) pl.isList (fun w hw => bY rx fx r fs w (by simpa using hw)) ⟨.bl _, H, I, rfl, ?_⟩
   rw [show its.toArray.any (eqU x) = its.any (eqU x) by simp, ei r fs]
   exact q
 · obtain ⟨its, r, pl, hz⟩ := I.tuple hq
   refine SeqAt.in_tupleAt (eqU x) pl (fun w hw => bY rx fx r fs w (by simpa using hw)) ⟨.bl _, H, I, rfl, ?_⟩
   rw [show its.toArray.any (eqU x) = its.any (eqU x) by simp, ei r fs]
   exact q
theorem gI : OpR X (compareOp .NotIn) (rIn X.K true) := by
 intro pins s σ H x y v u Q I rx ry h
 obtain ⟨p, xs, rfl, hq, fx, fs, q⟩ := h
 cases ry
 rcases hq with hq | hq
 · obtain ⟨its, r, pl, hz⟩ := I.list hq
   refine SeqAt.notIn_listAt (eqU x) pl.isList (fun w hw => bY rx fx r fs w (by simpa using hw)) ⟨.bl _, H, I, rfl, ?_⟩
   rw [show its.toArray.any (eqU x) = its.any (eqU x) by simp, ei r fs]
   exact q
 · obtain ⟨its, r, pl, hz⟩ := I.tuple hq
   refine SeqAt.notIn_tupleAt (eqU x) pl (fun w hw => bY rx fx r fs w (by simpa using hw)) ⟨.bl _, H, I, rfl, ?_⟩
   rw [show its.toArray.any (eqU x) = its.any (eqU x) by simp, ei r fs]
   exact q
theorem op_notIn_str : OpR X (compareOp .NotIn) (fun x y H Q => ∃ i j, x = .str i ∧ y = .str j ∧ Q (.bl (!(!(Builtin.Str.occurrences j i 0 j.length 1).isEmpty))) H) := by
 intro pins s σ H x y v u Q I rx ry h
 obtain ⟨i, j, rfl, rfl, q⟩ := h
 obtain ⟨t, rfl⟩ := rx
 obtain ⟨t', rfl⟩ := ry
 exact notIn_str ⟨.bl _, H, I, rfl, q⟩
theorem CallR.or {f : Value} {r r' : List V → Hp → VK → Prop} (h : CallR X f r) (h' : CallR X f r') : CallR X f (fun xs H Q => r xs H Q ∨ r' xs H Q) := by
 intro pins s σ H xs us Q I rs q
 rcases q with q | q
 · exact h pins s σ H xs us Q I rs q
 · exact h' pins s σ H xs us Q I rs q
theorem fL : CallR X (.type "tuple") (fun xs H Q => ∃ p ys, xs = [.ref p] ∧ ((SqL X.K H p ys ∧ ∀ l, H l = none → Q (.ref l) (upd H l (.tup ys))) ∨ (SqT X.K H p ys ∧ Q (.ref p) H))) := by
 intro pins s σ H xs us Q I r h
 obtain ⟨p, ys, rfl, h⟩ := h
 obtain ⟨u, rfl, rx⟩ := eg r
 cases rx
 rcases h with ⟨hq, q⟩ | ⟨hq, q⟩
 · obtain ⟨its, r', pl, hz⟩ := I.list hq
   have hlen := r'.length
   refine call_tuple_list pl.isList (fun h' kp => ?_) (by simp only [List.size_toArray] <;> omega)
   have I1 : Inv X pins σ H { s with heap := h' } := I.kept (t' := s.toks) kp
   have I2 : Inv X pins σ (upd H h'.objs.size (.tup ys)) { s with heap := h'.push { cls := .type "tuple", data := .seq its.toArray } } :=
    I1.laid (t' := s.toks) (fun b o e => Heap.get?_push_of_some _ e) (Nat.le_refl _) (show ObjOk X.prog X.w _ _ _ (.tup ys) from ⟨hz, its, r', IsTup.new _ _⟩)
   exact ⟨.ref h'.objs.size, _, I2, rfl, q _ (I1.hok.fresh (Nat.le_refl _))⟩
 · obtain ⟨its, r', pl, hz⟩ := I.tuple hq
   exact call_tuple_same pl ⟨.ref p, H, I, rfl, q⟩
def tyV (K : PySem.W.Frag) (T : String) (x : V) (H : Hp) : Prop := match x with
 | .str _ => T = "str"
 | .int _ => T = "int"
 | .ref p => (T = "list" ∧ ∃ xs, SqL K H p xs) ∨ (T = "tuple" ∧ ∃ o, K.lookup p = some o ∧ o.cls = .type "tuple" ∧ o.dict = none) ∨
  (T = "dict" ∧ ((∃ kvs, H p = some (.dK kvs)) ∨ ∃ kvs, H p = some (.dT kvs))) ∨ (T = "set" ∧ ∃ S n, H p = some (.set S n))
 | _ => False
theorem lc {pins : List (Addr × Obj)} {σ : St} {H : Hp} {s : Shared} {T : String} {x : V} {v : Value} (I : Inv X pins σ H s) (r : RelV x v) (ty : tyV X.K T x H) :
 s.TypeIs v T ∧ ∀ a, v = .ref a → ∃ ob, s.heap.get? a = some ob ∧ ob.dict = none := by
 cases x with
 | str z =>
  obtain ⟨t, rfl⟩ := r
  cases (show T = "str" from ty)
  exact ⟨typeIs_str s z t, fun _ e => nomatch e⟩
 | int i =>
  obtain ⟨t, rfl⟩ := r
  cases (show T = "int" from ty)
  exact ⟨typeIs_int s i t, fun _ e => nomatch e⟩
 | ref p =>
  cases r
  rcases ty with ⟨rfl, xs, hq⟩ | ⟨rfl, o, hk, hc, hd⟩ | ⟨rfl, hk⟩ | ⟨rfl, S, n, hk⟩
  · obtain ⟨its, _, pl, _⟩ := I.list hq
    refine ⟨pl.isList.typeIs, fun a e => ?_⟩
    cases e
    obtain ⟨o, n, e, c, hd, _⟩ := pl
    exact ⟨o, e, hd⟩
  · refine ⟨⟨o, I.kIn p o hk, hc⟩, fun a e => ?_⟩
    cases e
    exact ⟨o, I.kIn _ o hk, hd⟩
  · have z : ∃ o, s.heap.get? p = some o ∧ o.ExactDict := by
     rcases hk with ⟨kvs, hk⟩ | ⟨kvs, hk⟩
     · obtain ⟨_, _, _, _, o, _, _, e, ex, _⟩ := I.hok p _ hk
       exact ⟨o, e, ex⟩
     · obtain ⟨_, _, _, _, o, _, _, e, ex, _⟩ := I.hok p _ hk
       exact ⟨o, e, ex⟩
    obtain ⟨o, e, ex⟩ := z
    refine ⟨⟨o, e, ex.1⟩, fun a e2 => ?_⟩
    cases e2
    exact ⟨o, e, ex.2.1⟩
  · obtain ⟨o, _, _, _, e, ex, _⟩ := I.hok p _ hk
    refine ⟨⟨o, e, ex.1⟩, fun a e2 => ?_⟩
    cases e2
    exact ⟨o, e, ex.2.1⟩
 | _ => exact False.elim ty
def tBM (K : PySem.W.Frag) (T : String) (r : V → List V → Hp → VK → Prop) (to : TE) (t : TA) : TE := fun σ H Q => to σ H fun x H1 => tyV K T x H1 ∧ t σ H1 fun xs H2 => r x xs H2 Q
variable {o e : Expr} {es : List Expr} {to : TE} {t : TA} {name : Str} {apos cpos : Pos} {T id : String} {r : V → List V → Hp → VK → Prop}
theorem qN (pa : PlainAttrs T) (slot : Slot T name id) (hty : typeOf (.builtin id) = pure (.type "method_descriptor")) (hm : MtR X id r) (ho : PE X o to) (ha : PA X (e :: es) t)
 (hbase : attributeBase o name X.env (eval o X.env) = eval o X.env := by rfl)
 (hfew : ((backTo cpos (starEach (e :: es) X.env)).all (fun x => !x.1) && (backToKw cpos (keywordEach [] X.env)).all (fun x => x.1.isSome)
   && decide ((e :: es).length + ([] : List Keyword).length + (if ([] : List Keyword).isEmpty then 0 else 1) < 30)) = true := by rfl)
 (hline : (apos.endLine == cpos.line) = true := by rfl) (hs : starEach (e :: es) X.env = (false, eval e X.env) :: starEach es X.env := by rfl) (hplain : (backTo cpos (starEach es X.env)).any (·.1) = false := by rfl) :
 PE X (.Call (.Attribute o name apos) (e :: es) [] cpos) (tBM X.K T r to t) := by
 intro pins s σ H Q I h
 refine wpAny_Call_method_late hbase hfew hline rfl (thn (ho pins s σ H _ I h) fun v s1 ⟨x, H1, I1, r1, ty, q1⟩ => ?_)
 obtain ⟨h1, h2⟩ := lc I1 r1 ty
 refine ⟨T, id, pa, slot, hty, h1, h2, ?_⟩
 have hA := ha cpos pins s1 σ H1 _ I1 q1
 rw [hs] at hA ⊢
 refine Calls.callWith_builtin (by show (false || (backTo cpos (starEach es X.env)).any (·.1)) = false; rw [hplain] <;> rfl) (Calls.evalArgs_plain ?_)
 exact thn hA fun us s2 ⟨vs, H2, I2, r2, q2⟩ => hm pins s2 σ H2 x vs v us Q I2 r1 r2 q2
end
theorem Vals.one : ∀ {x : V} {us : List Value}, Vals [x] us → ∃ u, us = [u] ∧ RelV x u
 | _, _, .cons r .nil => ⟨_, rfl, r⟩
theorem Vals.two : ∀ {x y : V} {us : List Value}, Vals [x, y] us → ∃ u v, us = [u, v] ∧ RelV x u ∧ RelV y v
 | _, _, _, .cons r (.cons q .nil) => ⟨_, _, rfl, r, q⟩
theorem Vals.zero : ∀ {us : List Value}, Vals [] us → us = []
 | _, .nil => rfl
theorem Vals.reverse {xs : List V} {us : List Value} (h : Vals xs us) : Vals xs.reverse us.reverse := by
 induction h with
 | nil => exact .nil
 | cons r t ih => rw [List.reverse_cons, List.reverse_cons]; exact Vals.append ih (.cons r .nil)
theorem Vals.rep {xs : List V} {us : List Value} (h : Vals xs us) : ∀ k : Nat, Vals (List.replicate k xs).flatten (List.replicate k us).flatten
 | 0 => .nil
 | k + 1 => by
  rw [List.replicate_succ, List.replicate_succ, List.flatten_cons, List.flatten_cons]
  exact Vals.append h (Vals.rep h k)
section
variable {X : Cx} {pins : List (Addr × Obj)} {σ : St} {H : Hp} {s : Shared} {l b : Addr} {xs ys zs : List V}
theorem Inv.lnew {its : List Value} {t' : Nat} (I : Inv X pins σ H s) (hv : Vals ys its) (hz : ys.length ≤ sizeLine) :
 Inv X pins σ (upd H s.heap.objs.size (.lst ys)) { s with heap := s.heap.push { cls := .type "list", data := .seq its.toArray }, toks := t' } :=
 I.laid (fun _ _ q => Heap.get?_push_of_some _ q) (Nat.le_refl _) ⟨hz, its, 0, hv, Heap.get?_push_size _ rfl⟩
theorem Inv.fresh (I : Inv X pins σ H s) : H s.heap.objs.size = none := I.hok.fresh (Nat.le_refl _)
theorem Inv.lstM (I : Inv X pins σ H s) (hH : H l = some (.lst xs)) : xs.length ≤ sizeLine ∧ ∃ (its : List Value) (n : Nat), Vals xs its ∧ xs.length = its.length ∧ s.heap.get? l = some { cls := .type "list", data := .seq its.toArray n } := by
 obtain ⟨z, its, n, r, e⟩ := I.hok l _ hH
 exact ⟨z, its, n, r, r.length, e⟩
end
section
variable {X : Cx}
def zi : R2 := fun x y H Q => ∃ l b xs zs, x = .ref l ∧ y = .ref b ∧ H l = some (.lst xs) ∧ H b = some (.lst zs) ∧ xs.length + zs.length ≤ sizeLine ∧ ∀ p, H p = none → Q (.ref p) (upd H p (.lst (xs ++ zs)))
theorem um : OpR X (binaryOp .Add) zi := by
 intro pins s σ H x y v u Q I rx ry h
 obtain ⟨l, b, xs, zs, rfl, rfl, hH, hB, hz, q⟩ := h
 cases rx
 cases ry
 obtain ⟨z, its, n, r, hl, e⟩ := I.lstM hH
 obtain ⟨z2, its2, n2, r2, hl2, e2⟩ := I.lstM hB
 refine PySem.P.add_list e e2 ?_ (by rw [List.size_toArray, List.size_toArray]; omega)
 have ea : its.toArray ++ its2.toArray = (its ++ its2).toArray := by simp
 rw [ea]
 exact ⟨.ref _, _, I.lnew (t' := s.toks) (r.append r2) (by rw [List.length_append]; omega), rfl, q _ I.fresh⟩
end
section
variable {prog : Program} {w : World} {A : Around} {E : Value → Shared → Prop} {s : Shared}
end
section
variable {X : Cx}
end
end L2
namespace Att
open PySem PySem.W PySem.Calls PyProof.Rows
theorem el {P : Params} {h : Heap} : ∀ (ns : List Int) (vs : List Value), WellAll P h vs (ns.map WData.int) → IntsAre vs ns := by
 intro ns
 induction ns with
 | nil =>
  intro vs w
  rw [List.map_nil] at w
  cases w
  exact .nil
 | cons n ns ih =>
  intro vs w
  rw [List.map_cons] at w
  cases w with
  | cons a b =>
   cases a
   exact .cons _ _ (ih _ b)
theorem lf {l : OpenLaw} {n : Nat} (hn : l.most = some n) {P : Params} {h : Heap} {args : List WData} {vals : List Value}
 (hpre : l.row.toRowW.claim.pre args = true) (hwl : WellAll P h vals args) :
 ∃ a vs ns, vals = [Value.ref a] ∧ args = [WData.list (ns.map WData.int)] ∧ h.get? a = some { cls := .type "list", data := .seq vs.toArray } ∧ IntsAre vs ns ∧ ns.length ≤ n := by
 have hsh : WShape.hasAll [] args [.list .int] = true := (pre_splitW hpre).1
 have hc : l.pre.holds [] { args := args } = true := (pre_splitW hpre).2
 obtain ⟨d, r, rfl, h1, h2⟩ := hasAllW_cons hsh
 obtain rfl := hasAllW_nil h2
 obtain ⟨xs, rfl, h3⟩ := hasW_list h1
 obtain ⟨ns, rfl⟩ := items_int h3
 have hlen : ns.length ≤ n := by
  unfold OpenLaw.pre at hc
  have h4 : (WTm.not (.lt (.lit (.int (n : Int))) (.len (.arg 0)))).holds [] { args := [.list (ns.map .int)] } = true := by
   have h4 := (holds_andW hc).1
   rw [hn] at h4
   exact h4
  have h5 := condW_of h4 (w_not (w_lt w_lit (w_len_list (w_arg rfl))))
  rw [List.length_map] at h5
  refine Nat.le_of_not_lt fun q => ?_
  have q' : (n : Int) < ((ns.length : Nat) : Int) := by omega
  first
   | (rw [decide_eq_true q'] at h5; exact absurd h5 (by decide))
   | (simp at h5; omega)
 cases hwl with
 | cons w1 w2 =>
  cases w2
  cases w1 with
  | list ho hall => exact ⟨_, _, ns, rfl, rfl, ho, el ns _ hall, hlen⟩
theorem lg (l : OpenLaw) (args : List WData) : l.row.toRowW.claim.post args (.bool true) args = true :=
 postW_of (r := l.row.toRowW) (X := (true == true))
  (show WShape.has [] (.bool true) .bool = true by first | rfl | decide | simp [WShape.has, WShape.arms, WShape.armsAll])
  (show (WTm.eq .res (.lit (.bool true))).value [] { args := args, res := some (.bool true), after := args } = some (.bool (true == true)) from w_eq_bool (w_res rfl) w_lit) rfl
theorem attach_call {l : OpenLaw} {n : Nat} {q : Program} {loose : List Str} {XP : (Str → Option Value) → Heap → Prop} {YP : World → Heap → Prop} {d : DefRec}
 (hn : l.most = some n) (hdf : d.params.defaults = [])
 (call : ∀ (w : World) (s₀ s₁ : Shared) (mg mb : Str → Option Value) (fa : Addr) (o : Obj) (pm cd doc : Value) (a : Addr) (vs : List Value) (ns : List Int),
   Ground q loose [] XP w s₀ mg mb s₁.heap → YP w s₁.heap →
   s₁.heap.get? fa = some o → o.data = .func (docDef d.name d.params d.body d.scope pm cd doc) → s₁.heap.CodeRec cd d.name → mg d.name = some (.ref fa) →
   s₁.heap.get? a = some { cls := .type "list", data := .seq vs.toArray } → IntsAre vs ns → ns.length ≤ n → s₁.gens = #[] →
   codeAny (model l.prog w) callerA (.call (.ref fa) ⟨[.ref a], []⟩) (fun r s' => r = .ok (.ret (.bool true)) ∧ OldK s₁.heap s'.heap ∧ s'.os = s₁.os ∧ AllBare s'.gens) s₁) :
 WalkO q loose XP YP l.row.toRowW d [] (fun f vs => PySem.call f vs) := by
 intro w s₀ s₁ mg mb G Y fa o pm cd doc dV kV ho hd hcd hD hmg hg args vals as hpre hlay hrd hwl hlo
 obtain rfl : dV = .none := Dflts.none hD hdf
 obtain rfl : kV = .none := Dflts.noKw hD
 obtain ⟨a, vs, ns, rfl, rfl, hobj, hints, hlen⟩ := lf hn hpre hwl
 refine enter_call (codeAny_mono (call w s₀ s₁ mg mb fa o pm cd doc a vs ns G Y ho (fd_plain hd) hcd hmg hobj hints hlen hg) fun r s' hq => ?_)
 obtain ⟨rfl, h2, h3, h4⟩ := hq
 exact ⟨.inl ⟨.bool true, .bool true, [], rfl, fun _ => rfl, .bool true, lg l _, fun _ => ⟨List.Pairwise.nil, fun _ hm => (nomatch hm)⟩⟩, h2, h3, h4⟩
section
variable {prog : Program} {w : World} {A : Around} {E : Value → Shared → Prop} {s : Shared} {K : Frag}
def zj (h : Heap) (L d : Addr) : List (Addr × Obj) := (List.range h.objs.size).filterMap fun a => if a = L ∨ a = d then none else (h.get? a).map fun o => (a, o)
end
end Att
namespace L2
open PySem PySem.Spec PyProof.Rows
theorem cT : ∀ {vs : List Value} {ns : List Int}, IntsAre vs ns → Vals (ns.map V.int) vs
 | _, _, .nil => .nil
 | _, _, .cons n t h => .cons ⟨t, rfl⟩ (cT h)
def xX (H : Hp) : Prop := ∀ b, H b = none ∨ ∃ o xs, H b = some (.frz o (.lst xs))
theorem nN {P : Program} {w : World} {K : PySem.W.Frag} {mg mb : Str → Option Value} {CX : CXT} {k : Nat} {fa a : Addr} {fd : FuncData} {x : Str} {sp : Sp} {s₁ : Shared} {vs : List Value} {ns : List Int}
 (KX : K.In s₁.heap) (hns : s₁.heap.Ns mainGlobals mg) (hb : s₁.heap.Ns builtinsNs mb) (hbb : ∀ x : Str, x ≠ "__name__" → mb x = bootBuiltins x) (hlim : s₁.heap.NoLimit) (hg : s₁.gens = #[])
 (ha : s₁.heap.get? a = some { cls := .type "list", data := .seq vs.toArray }) (hi : IntsAre vs ns) (hl : ns.length ≤ sizeLine) (hr : Room k callerA)
 (F : ∀ base : Heap, K.In base → base.Ns mainGlobals mg → FnOk P w K mg base CX k fa fd [x] sp) (hbind : ∀ (s : Shared) (u : Value), BindsTo s fd ⟨[u], []⟩ [(x, u)])
 (hsp : ∀ H : Hp, xX H → SqL K H a (ns.map V.int) → sp [.ref a] H (fun v _ => v = .bl true) fun _ _ _ => False)
 (hCX : ∀ H e s', CX [] H s₁ (fun _ _ _ => False) e s' → False) :
 codeAny (model P w) callerA (.call (.ref fa) ⟨[.ref a], []⟩) (fun r s' => r = .ok (.ret (.bool true)) ∧ OldK s₁.heap s'.heap ∧ s'.os = s₁.os ∧ AllBare s'.gens) s₁ := by
 have rv := cT hi
 have lenV := hi.length
 have core : ∀ H : Hp, xX H → SqL K H a (ns.map V.int) → HOk P w H s₁.heap → (∀ b, H b ≠ none → b = a) → (H a ≠ none → K.lookup a = none) →
  codeAny (model P w) callerA (.call (.ref fa) ⟨[.ref a], []⟩) (fun r s' => r = .ok (.ret (.bool true)) ∧ OldK s₁.heap s'.heap ∧ s'.os = s₁.os ∧ AllBare s'.gens) s₁ := by
  intro H hO hS hok hA hK
  have base_of : ∀ {b : Addr} {o : Obj}, s₁.heap.get? b = some o → H b = none → (nz s₁.heap H).get? b = some o := fun e n => nA e n
  have noA : ∀ {b : Addr} {o : Obj} {es : Array DictEntry} {ep : Nat}, s₁.heap.get? b = some o → o.data = .dict es ep → H b = none := fun {b o es ep} e d => by
   cases q : H b with
   | none => rfl
   | some u =>
    have e' : b = a := hA b (by rw [q]; simp)
    subst e'
    rw [ha] at e; cases e
    have d' : Data.seq vs.toArray _ = Data.dict es ep := d
    cases d'
  have nsK : ∀ {b : Addr} {m : Str → Option Value}, s₁.heap.Ns b m → (nz s₁.heap H).Ns b m := fun {b m} ⟨o, es, ep, e, d, r⟩ => ⟨o, es, ep, base_of e (noA e d), d, r⟩
  have hKb : K.In (nz s₁.heap H) := fun b o e => base_of (KX b o e) (by
   cases q : H b with
   | none => rfl
   | some u =>
    have e' : b = a := hA b (by rw [q]; simp)
    subst e'
    rw [hK (by rw [q]; simp)] at e; cases e)
  have hM : Mod K mg (nz s₁.heap H) := ⟨hKb, nsK hns, ⟨mb, nsK hb, hbb⟩, let ⟨mc, h1, h2⟩ := hlim; ⟨mc, nsK h1, h2⟩⟩
  have e0 : Env0 P w K mg (nz s₁.heap H) callerA [] s₁ H := ⟨rfl, hM, fun b o e => qw e, Nat.le_of_eq (kL _ _), trivial, fun b hb => absurd (show b ∈ ([] : List Addr) from hb) (by simp), hok, .of_eq hg⟩
  refine codeAny_mono ((F _ hKb (nsK hns)).run callerA [] s₁ H ⟨[.ref a], []⟩ [.ref a] [.ref a] _ _ hr e0 (hbind s₁ (.ref a)) (.cons rfl .nil) (hsp H hO hS)) fun r s' h => ?_
  cases r with
  | error e => exact (hCX H e s' h).elim
  | ok fl =>
   cases fl with
   | next => exact False.elim h
   | brk => exact False.elim h
   | cont => exact False.elim h
   | ret u =>
    obtain ⟨v, H', os, bare, un, hok', r', q⟩ := h
    have q' : v = .bl true := q
    subst q'
    obtain rfl : u = Value.bool true := r'
    refine ⟨rfl, OldK.of_keep fun b o e => ?_, os, bare⟩
    cases q : H b with
    | none => exact un.keep b o e q (by intro z; exact absurd (show b ∈ ([] : List Addr) from z) (by simp)) (by simp)
    | some u =>
     rcases hO b with z | ⟨ob, xs, z⟩
     · rw [q] at z; cases z
     · have z2 := un.frzs b ob _ z
       obtain ⟨e1, _⟩ := hok b _ z
       obtain ⟨e2, _⟩ := hok' b _ z2
       rw [e] at e1; cases e1
       exact e2
 cases hk : K.lookup a with
 | some o =>
  have e := KX a o hk
  rw [ha] at e
  cases e
  refine core (fun _ => none) (fun _ => .inl rfl) (.inr ⟨_, vs.toArray, _, hk, rfl, rfl, rfl, by rw [List.size_toArray, lenV]; exact hl, by simpa using rv⟩) (fun b u z => by have z' : (none : Option HO) = some u := z; cases z') (fun b z => absurd rfl z) fun z => absurd rfl z
 | none =>
  refine core (fun b => if b = a then some (.frz { cls := .type "list", data := .seq vs.toArray } (.lst (ns.map V.int))) else none) (fun b => ?_) (.inl (.inr ⟨{ cls := .type "list", data := .seq vs.toArray }, if_pos rfl⟩)) (fun b u z => ?_) (fun b z => ?_) fun _ => hk
  · by_cases hb : b = a
    · exact .inr ⟨_, _, if_pos hb⟩
    · exact .inl (if_neg hb)
  · by_cases hb : b = a
    · have z' := (if_pos hb).symm.trans z
      cases z'
      subst hb
      exact ⟨ha, by rw [List.length_map]; exact hl, vs, _, rv, ha⟩
    · have z' := (if_neg hb).symm.trans z
      cases z'
  · by_cases hb : b = a
    · exact hb
    · exact absurd (if_neg hb) z
abbrev KOf {K : PySem.W.Frag} {h : Heap} (_ : K.In h) : PySem.W.Frag := K
theorem walk_of {l : PySem.W.OpenLaw} {n k : Nat} {q : Program} {loose : List Str} {XP : (Str → Option Value) → Heap → Prop} {YP : World → Heap → Prop} {d : DefRec} {K : Params → PySem.W.Frag} {CX : World → CXT} {sp : World → Sp} {x : Str}
 (hn : l.most = some n) (hn2 : n ≤ sizeLine) (hdf : d.params.defaults = []) (hr : Room k callerA)
 (hY : ∀ (w : World) (h : Heap), YP w h → (K w.params).In h)
 (F : ∀ (w : World) (mg : Str → Option Value) (fa : Addr) (h : Heap), (K w.params).In h → h.Ns mainGlobals mg → mg d.name = some (.ref fa) →
   ∃ fd : FuncData, (∀ (s : Shared) (u : Value), BindsTo s fd ⟨[u], []⟩ [(x, u)]) ∧
    ∀ base : Heap, (K w.params).In base → base.Ns mainGlobals mg → FnOk l.prog w (K w.params) mg base (CX w) k fa fd [x] (sp w))
 (hsp : ∀ (w : World) (H : Hp) (a : Addr) (ns : List Int), ns.length ≤ n → xX H → SqL (K w.params) H a (ns.map V.int) → sp w [.ref a] H (fun v _ => v = .bl true) fun _ _ _ => False)
 (hCX : ∀ (w : World) (H : Hp) (s : Shared) (e : Value) (s' : Shared), CX w [] H s (fun _ _ _ => False) e s' → False) :
 PySem.W.WalkO q loose XP YP l.row.toRowW d [] (fun f vs => PySem.call f vs) := by
 refine Att.attach_call hn hdf fun w s₀ s₁ mg mb fa o pm cd doc a vs ns G Y ho hd hcd hmg hobj hints hlen hg => ?_
 have KX := hY w _ Y
 obtain ⟨fd, hb, hF⟩ := F w mg fa _ KX G.T.g hmg
 exact nN KX G.T.g G.T.b G.T.builtins G.T.nolimit hg hobj hints (Nat.le_trans hlen hn2) hr hF hb (fun H hO hS => hsp w H a ns hlen hO hS) fun H e s' => hCX w H s₁ e s'
def dc (s : Stmt) : Arguments := match s with
 | .FunctionDef _ a _ _ _ _ _ _ _ _ => a
 | _ => { posonlyargs := [], args := [], vararg := none, kwonlyargs := [], kw_defaults := [], kwarg := none, defaults := [] }
def aN (s : Stmt) : List Stmt := match s with
 | .FunctionDef _ _ b _ _ _ _ _ _ _ => b
 | _ => []
def ah (s : Stmt) : Scope := match s with
 | .FunctionDef _ _ _ _ _ _ sc _ _ _ => sc
 | _ => { kind := .function, names := [], isGenerator := false, isCoroutine := false }
abbrev CX0 : CXT := fun _ _ _ _ _ _ => False
abbrev E0 : XK := fun _ _ _ => False
theorem uo {X : Cx} : jn CX0 X E0 := fun _ _ _ _ _ _ _ h => h.elim
structure Fun (K : PySem.W.Frag) (x qual : Str) (st : Stmt) (f : Addr) (fd : FuncData) : Prop where
 ex : ∃ (oc : Value) (od : Option Addr) (kV doc pm : Value) (an : Option Addr) (cdv ct : Value) (osl : Array (Option Value)),
  fd = PySem.W.fnOf x qual (dc st) (aN st) (ah st) .none kV doc pm an cdv ct ∧ K.lookup f = some ⟨oc, od, .func fd, osl⟩ ∧ PySem.W.codeIn K cdv qual = true
 kp : PySem.W.keepIn K (.ref f) = true
section
variable {P : Program} {w : World} {K : PySem.W.Frag} {mg : Str → Option Value} {base : Heap}
theorem Fun.ok {x qual : Str} {st : Stmt} {f : Addr} {fd : FuncData} {N ps : List Str} {k : Nat} {sp : Sp} (F : Fun K x qual st f fd) (S : bX N ps (ah st)) (len : ∀ vs H Q E, sp vs H Q E → vs.length = ps.length)
 (hbody : ∀ (cdv : Value) (A : Around) (outer : List Env) (s : Shared) (H : Hp) (vs : List V) (Q : VK) (E : XK), Room k (A.deeper (envOfC qual (ah st) s.heap.objs.size f cdv)) → sp vs H Q E →
   ∃ t, PSs (ik CX0 P w K mg base N qual (ah st) f cdv A outer s H E).nox (aN st) t ∧ t { nx := fun _ H' => Q .non H', rt := Q } (start N vs) H) : FnOk P w K mg base CX0 (k + 1) f fd ps sp := by
 obtain ⟨oc, od, kV, doc, pm, an, cdv, ct, osl, rfl, lk, hcd⟩ := F.ex
 refine uf lk hcd S len fun A outer s H vs Q E hr hsp => ?_
 obtain ⟨t, h, q⟩ := hbody cdv A outer s H vs Q E hr hsp
 exact ⟨t, h.nox, q⟩
theorem Fun.binds {x qual : Str} {st : Stmt} {f : Addr} {fd : FuncData} {ps : List Str} (F : Fun K x qual st f fd)
 (h : ∀ (kV doc pm : Value) (an : Option Addr) (cdv ct : Value) (us : List Value), us.length = ps.length → bindArgs (PySem.W.fnOf x qual (dc st) (aN st) (ah st) .none kV doc pm an cdv ct) ⟨us, []⟩ = pure (ps.zip us)) : Binds K fd ps [] := by
 obtain ⟨oc, od, kV, doc, pm, an, cdv, ct, osl, rfl, lk, hcd⟩ := F.ex
 exact .all (h kV doc pm an cdv ct)
theorem uq {x qual : Str} {st : Stmt} {f : Addr} {oc : Value} {od an : Option Addr} {osl : Array (Option Value)} {kV doc pm cdv ct : Value} (l : K.lookup f = some ⟨oc, od, .func (PySem.W.fnOf x qual (dc st) (aN st) (ah st) .none kV doc pm an cdv ct), osl⟩)
 (c : PySem.W.codeIn K cdv qual = true) (k : PySem.W.keepIn K (.ref f) = true) : Fun K x qual st f (PySem.W.fnOf x qual (dc st) (aN st) (ah st) .none kV doc pm an cdv ct) := ⟨⟨oc, od, kV, doc, pm, an, cdv, ct, osl, rfl, l, c⟩, k⟩
end
section
variable {X : Cx}
end
theorem nn {A B : Prop} (h : B) : if false = true then A else B := by
 rw [if_neg Bool.false_ne_true]
 exact h
theorem nq {A B : Prop} (h : A) : if true = true then A else B := by
 rw [if_pos rfl]
 exact h
def Same (H H' : Hp) : Prop := ∀ b o, H b = some o → H' b = some o
theorem Same.refl (H : Hp) : Same H H := fun _ _ h => h
theorem Same.trans {H H1 H2 : Hp} (a : Same H H1) (b : Same H1 H2) : Same H H2 := fun c o h => b c o (a c o h)
theorem Same.free {H H' : Hp} (e : Same H H') {l : Addr} (h : H' l = Option.none) : H l = Option.none := by
 cases q : H l with
 | none => rfl
 | some o =>
  rw [e l o q] at h
  cases h
theorem Same.seq {K : PySem.W.Frag} {H H' : Hp} {a : Addr} {xs : List V} (e : Same H H') (h : SqL K H a xs) : SqL K H' a xs := by
 rcases h with (h | ⟨o, h⟩) | h
 · exact .inl (.inl (e _ _ h))
 · exact .inl (.inr ⟨o, e _ _ h⟩)
 · exact .inr h
end L2
namespace FD
open PySem PySem.Spec PyProof.Rows L2
inductive Dv where
 | non | bl (b : Bool) | int (i : Int) | str (x : Str) | tup (xs : List Dv) | lst (xs : List Dv) | scr (ns : List Int) | exn (c : Nat)
def xnm : Nat → Str
 | 0 => "NoName" | 1 => "NoTable" | 2 => "NoPath" | 3 => "NoAsk" | 4 => "NoNote" | 5 => "NoJar" | 6 => "NoNumber" | 7 => "NoText" | 8 => "NoStep" | _ => "JarError"
mutual
def Rep (K : PySem.W.Frag) (H : Hp) : Dv → V → Prop
 | .non, v => v = .non
 | .bl b, v => v = .bl b
 | .int i, v => v = .int i
 | .str x, v => v = .str x
 | .tup ds, v => ∃ a xs, v = .ref a ∧ H a = some (.tup xs) ∧ Reps K H ds xs
 | .lst ds, v => ∃ a xs, v = .ref a ∧ H a = some (.lst xs) ∧ Reps K H ds xs
 | .scr ns, v => ∃ a, v = .ref a ∧ SqL K H a (ns.map V.int)
 | .exn c, v => ∃ a o u C, v = .ref a ∧ H a = some (.frz o u) ∧ o.cls = .ref C ∧ PySem.W.nsIn K mainGlobals (xnm c) = some (some (.ref C))
def Reps (K : PySem.W.Frag) (H : Hp) : List Dv → List V → Prop
 | [], vs => vs = []
 | d :: ds, vs => ∃ v us, vs = v :: us ∧ Rep K H d v ∧ Reps K H ds us
end
section
variable {K : PySem.W.Frag} {H H' : Hp}
mutual
theorem Rep.mono (e : Same H H') : ∀ (d : Dv) (v : V), Rep K H d v → Rep K H' d v
 | .non, _, h => h
 | .bl _, _, h => h
 | .int _, _, h => h
 | .str _, _, h => h
 | .tup ds, v, h => by
  obtain ⟨a, xs, r, h, q⟩ : ∃ a xs, v = .ref a ∧ H a = some (.tup xs) ∧ Reps K H ds xs := h
  exact ⟨a, xs, r, e _ _ h, Reps.mono e ds xs q⟩
 | .lst ds, v, h => by
  obtain ⟨a, xs, r, h, q⟩ : ∃ a xs, v = .ref a ∧ H a = some (.lst xs) ∧ Reps K H ds xs := h
  exact ⟨a, xs, r, e _ _ h, Reps.mono e ds xs q⟩
 | .scr ns, v, h => by
  obtain ⟨a, r, h⟩ : ∃ a, v = .ref a ∧ SqL K H a (ns.map V.int) := h
  exact ⟨a, r, e.seq h⟩
 | .exn c, v, h => by
  obtain ⟨a, o, u, C, r, h, q⟩ : ∃ a o u C, v = .ref a ∧ H a = some (.frz o u) ∧ o.cls = .ref C ∧ PySem.W.nsIn K mainGlobals (xnm c) = some (some (.ref C)) := h
  exact ⟨a, o, u, C, r, e _ _ h, q⟩
theorem Reps.mono (e : Same H H') : ∀ (ds : List Dv) (vs : List V), Reps K H ds vs → Reps K H' ds vs
 | [], _, h => h
 | d :: ds, vs, h => by
  obtain ⟨v, us, r, h, q⟩ : ∃ v us, vs = v :: us ∧ Rep K H d v ∧ Reps K H ds us := h
  exact ⟨v, us, r, Rep.mono e d v h, Reps.mono e ds us q⟩
end
theorem Reps.nil : Reps K H [] [] := rfl
theorem Reps.cons {d ds v vs} (h : Rep K H d v) (t : Reps K H ds vs) : Reps K H (d :: ds) (v :: vs) := ⟨v, vs, rfl, h, t⟩
theorem Reps.length : ∀ {ds : List Dv} {vs : List V}, Reps K H ds vs → vs.length = ds.length
 | [], vs, h => by cases (show vs = [] from h); rfl
 | d :: ds, vs, h => by
  obtain ⟨v, us, r, _, q⟩ : ∃ v us, vs = v :: us ∧ Rep K H d v ∧ Reps K H ds us := h
  subst r
  show us.length + 1 = ds.length + 1
  rw [Reps.length q]
theorem Reps.get : ∀ {ds : List Dv} {vs : List V} {i : Nat} {v : V}, Reps K H ds vs → vs[i]? = some v → ∃ d, ds[i]? = some d ∧ Rep K H d v
 | [], vs, i, v, h, e => by cases (show vs = [] from h); simp at e
 | d :: ds, vs, i, v, h, e => by
  obtain ⟨v', us, r, h', q⟩ : ∃ v us, vs = v :: us ∧ Rep K H d v ∧ Reps K H ds us := h
  subst r
  cases i with
  | zero => simp at e; subst e; exact ⟨d, rfl, h'⟩
  | succ i =>
   obtain ⟨d', e', r'⟩ := Reps.get (i := i) q (by simpa using e)
   exact ⟨d', by simpa using e', r'⟩
theorem Reps.get' : ∀ {ds : List Dv} {vs : List V} {i : Nat} {d : Dv}, Reps K H ds vs → ds[i]? = some d → ∃ v, vs[i]? = some v ∧ Rep K H d v
 | [], vs, i, v, h, e => by simp at e
 | d :: ds, vs, i, d0, h, e => by
  obtain ⟨v', us, r, h', q⟩ : ∃ v us, vs = v :: us ∧ Rep K H d v ∧ Reps K H ds us := h
  subst r
  cases i with
  | zero => simp at e; subst e; exact ⟨v', rfl, h'⟩
  | succ i =>
   obtain ⟨d', e', r'⟩ := Reps.get' (i := i) q (by simpa using e)
   exact ⟨d', by simpa using e', r'⟩
theorem Reps.append : ∀ {ds es : List Dv} {vs us : List V}, Reps K H ds vs → Reps K H es us → Reps K H (ds ++ es) (vs ++ us)
 | [], es, vs, us, h, q => by cases (show vs = [] from h); exact q
 | d :: ds, es, vs, us, h, q => by
  obtain ⟨v', vs', r, h', t⟩ : ∃ v us, vs = v :: us ∧ Rep K H d v ∧ Reps K H ds us := h
  subst r
  exact ⟨v', vs' ++ us, rfl, h', Reps.append t q⟩
theorem Reps.take : ∀ {ds : List Dv} {vs : List V} (n : Nat), Reps K H ds vs → Reps K H (ds.take n) (vs.take n)
 | ds, vs, 0, _ => by simp [Reps]
 | [], vs, n + 1, h => by cases (show vs = [] from h); exact rfl
 | d :: ds, vs, n + 1, h => by
  obtain ⟨v', vs', r, h', t⟩ : ∃ v us, vs = v :: us ∧ Rep K H d v ∧ Reps K H ds us := h
  subst r
  exact ⟨v', vs'.take n, rfl, h', Reps.take n t⟩
theorem Reps.drop : ∀ {ds : List Dv} {vs : List V} (n : Nat), Reps K H ds vs → Reps K H (ds.drop n) (vs.drop n)
 | ds, vs, 0, h => h
 | [], vs, n + 1, h => by cases (show vs = [] from h); exact rfl
 | d :: ds, vs, n + 1, h => by
  obtain ⟨v', vs', r, h', t⟩ : ∃ v us, vs = v :: us ∧ Rep K H d v ∧ Reps K H ds us := h
  subst r
  exact Reps.drop n t
theorem Rep.lstE {ds : List Dv} {v : V} (h : Rep K H (.lst ds) v) : ∃ a xs, v = .ref a ∧ H a = some (.lst xs) ∧ Reps K H ds xs := h
theorem Rep.tupE {ds : List Dv} {v : V} (h : Rep K H (.tup ds) v) : ∃ a xs, v = .ref a ∧ H a = some (.tup xs) ∧ Reps K H ds xs := h
theorem Rep.exnE {c : Nat} {v : V} (h : Rep K H (.exn c) v) : ∃ a o u C, v = .ref a ∧ H a = some (.frz o u) ∧ o.cls = .ref C ∧ PySem.W.nsIn K mainGlobals (xnm c) = some (some (.ref C)) := h
theorem Rep.scrE {ns : List Int} {v : V} (h : Rep K H (.scr ns) v) : ∃ a, v = .ref a ∧ SqL K H a (ns.map V.int) := h
end
theorem ao {H : Hp} {p : Addr} (h : H p = none) (o : HO) : Same H (upd H p o) := fun b u q => by rw [ak (aj q h)]; exact q
abbrev Ev := List (Option Dv)
structure Envs (K : PySem.W.Frag) (H : Hp) (σ : L2.St) (ρ : Ev) : Prop where
 len : σ.length = ρ.length
 at' : ∀ (i : Nat) (d : Dv), ρ[i]? = some (some d) → ∃ v, σ[i]? = some (some v) ∧ Rep K H d v
theorem Envs.mono {K : PySem.W.Frag} {H H' : Hp} {σ : L2.St} {ρ : Ev} (E : Envs K H σ ρ) (e : Same H H') : Envs K H' σ ρ :=
 ⟨E.len, fun i d h => let ⟨v, h1, h2⟩ := E.at' i d h; ⟨v, h1, Rep.mono e d v h2⟩⟩
theorem Envs.set {K : PySem.W.Frag} {H : Hp} {σ : L2.St} {ρ : Ev} {i : Nat} {d : Dv} {v : V} (E : Envs K H σ ρ) (r : Rep K H d v) : Envs K H (σ.set i (some v)) (ρ.set i (some d)) := by
 refine ⟨by rw [List.length_set, List.length_set]; exact E.len, fun j d' h => ?_⟩
 by_cases hj : i = j
 · subst hj
   by_cases hl : i < ρ.length
   · rw [List.getElem?_set_self hl] at h
     cases h
     exact ⟨v, by rw [List.getElem?_set_self (by rw [E.len]; exact hl)], r⟩
   · rw [List.getElem?_eq_none (by rw [List.length_set]; omega)] at h
     cases h
 · rw [List.getElem?_set_ne hj] at h
   rw [List.getElem?_set_ne hj]
   exact E.at' j d' h
def fgt (js : List Nat) (ρ : Ev) : Ev := js.foldl (fun r j => r.set j none) ρ
theorem Envs.fgt1 {K : PySem.W.Frag} {H : Hp} {σ : L2.St} {ρ : Ev} (j : Nat) (E : Envs K H σ ρ) : Envs K H σ (ρ.set j none) := by
 refine ⟨by rw [List.length_set]; exact E.len, fun i d h => ?_⟩
 by_cases hj : j = i
 · subst hj
   by_cases hl : j < ρ.length
   · rw [List.getElem?_set_self hl] at h
     cases h
   · rw [List.getElem?_eq_none (by rw [List.length_set]; omega)] at h
     cases h
 · rw [List.getElem?_set_ne hj] at h
   exact E.at' i d h
theorem Envs.fgt {K : PySem.W.Frag} {H : Hp} {σ : L2.St} : ∀ (js : List Nat) {ρ : Ev}, Envs K H σ ρ → Envs K H σ (fgt js ρ)
 | [], _, E => E
 | j :: js, _, E => Envs.fgt js (E.fgt1 j)
inductive Rs (α : Type) where
 | ok (a : α)
 | exc (c : Nat)
inductive Fl where
 | nx (ρ : Ev)
 | rt (d : Dv)
 | exc (c : Nat)
def Fly (N : Addr → Prop) (H : Hp) (e : Addr) (cls : Value) (h : Heap) : Prop := H e = none ∧ N e ∧ ∃ oe vs a0, h.get? e = some oe ∧ oe.cls = cls ∧ oe.data = .fields vs ∧ vs[0]? = some a0 ∧
 (vs[1]? = some .none ∨ ∃ T oT ts, vs[1]? = some (.ref T) ∧ T ≠ e ∧ H T = none ∧ N T ∧ h.get? T = some oT ∧ oT.data = .fields ts ∧ ts[3]? = some .none)
def xY (X : Cx) (a : Addr) : Prop := X.s₀.heap.get? a = none ∧ ∀ p ∈ X.pn, p.1 ≠ a
def xZ (X : Cx) (H : Hp) (c : Nat) (e : Value) (s : Shared) : Prop := ∃ a C, e = .ref a ∧ PySem.W.nsIn X.K mainGlobals (xnm c) = some (some (.ref C)) ∧ Fly (xY X) H a (.ref C) s.heap
def XW (X : Cx) (c : Nat) (H : Hp) : Prop := ∀ pins σ H' s e, Same H H' → Inv X pins σ H' s → xZ X H' c e s → X.xe e s
theorem XW.mono {X : Cx} {c : Nat} {H H' : Hp} (h : XW X c H) (e : Same H H') : XW X c H' := fun pins σ H1 s x e1 I q => h pins σ H1 s x (e.trans e1) I q
def Out (X : Cx) (H : Hp) (o : Option (Rs Dv)) (Q : VK) : Prop := match o with
 | none => False
 | some (.exc c) => XW X c H
 | some (.ok d) => ∀ v H', Same H H' → Rep X.K H' d v → Q v H'
def OutB (X : Cx) (H : Hp) (o : Option (Rs Bool)) (Q : Bool → Hp → Prop) : Prop := match o with
 | none => False
 | some (.exc c) => XW X c H
 | some (.ok d) => ∀ H', Same H H' → Q d H'
def OutA (X : Cx) (H : Hp) (o : Option (Rs (List Dv))) (Q : List V → Hp → Prop) : Prop := match o with
 | none => False
 | some (.exc c) => XW X c H
 | some (.ok ds) => ∀ vs H', Same H H' → Reps X.K H' ds vs → Q vs H'
def OutS (X : Cx) (H : Hp) (o : Option Fl) (D : jh) : Prop := match o with
 | none => False
 | some (.exc c) => XW X c H
 | some (.rt d) => ∀ v H', Same H H' → Rep X.K H' d v → D.rt v H'
 | some (.nx ρ) => ∀ σ H', Same H H' → Envs X.K H' σ ρ → D.nx σ H'
def bnd {α β : Type} (o : Option (Rs α)) (k : α → Option (Rs β)) : Option (Rs β) := match o with
 | none => none
 | some (.exc c) => some (.exc c)
 | some (.ok a) => k a
def fN {α : Type} (o : Option (Rs α)) (k : α → Option Fl) : Option Fl := match o with
 | none => none
 | some (.exc c) => some (.exc c)
 | some (.ok a) => k a
def sq (o : Option Fl) (k : Ev → Option Fl) : Option Fl := match o with
 | some (.nx ρ) => k ρ
 | o => o
section
variable {X : Cx} {H H' : Hp} {Q : VK} {QB : Bool → Hp → Prop} {QA : List V → Hp → Prop} {D : jh}
theorem Out.mono (e : Same H H') : ∀ {o : Option (Rs Dv)}, Out X H o Q → Out X H' o Q
 | none, h => h
 | some (.exc _), h => XW.mono h e
 | some (.ok _), h => fun v H1 e1 r => h v H1 (e.trans e1) r
theorem OutB.mono (e : Same H H') : ∀ {o : Option (Rs Bool)}, OutB X H o QB → OutB X H' o QB
 | none, h => h
 | some (.exc _), h => XW.mono h e
 | some (.ok _), h => fun H1 e1 => h H1 (e.trans e1)
theorem OutA.mono (e : Same H H') : ∀ {o : Option (Rs (List Dv))}, OutA X H o QA → OutA X H' o QA
 | none, h => h
 | some (.exc _), h => XW.mono h e
 | some (.ok _), h => fun v H1 e1 r => h v H1 (e.trans e1) r
theorem OutS.mono (e : Same H H') : ∀ {o : Option Fl}, OutS X H o D → OutS X H' o D
 | none, h => h
 | some (.exc _), h => XW.mono h e
 | some (.rt _), h => fun v H1 e1 r => h v H1 (e.trans e1) r
 | some (.nx _), h => fun v H1 e1 r => h v H1 (e.trans e1) r
theorem Out.bind {o : Option (Rs Dv)} {k : Dv → Option (Rs Dv)} {P : VK} (h : Out X H (bnd o k) Q) (hp : ∀ d v H', Same H H' → Rep X.K H' d v → Out X H' (k d) Q → P v H') : Out X H o P := by
 match o, h with
 | some (.exc _), h => exact h
 | some (.ok d), h => exact fun v H1 e r => hp d v H1 e r (Out.mono e h)
theorem Out.bindB {o : Option (Rs Dv)} {k : Dv → Option (Rs Bool)} {P : VK} (h : OutB X H (bnd o k) QB) (hp : ∀ d v H', Same H H' → Rep X.K H' d v → OutB X H' (k d) QB → P v H') : Out X H o P := by
 match o, h with
 | some (.exc _), h => exact h
 | some (.ok d), h => exact fun v H1 e r => hp d v H1 e r (OutB.mono e h)
theorem Out.bindA {o : Option (Rs Dv)} {k : Dv → Option (Rs (List Dv))} {P : VK} (h : OutA X H (bnd o k) QA) (hp : ∀ d v H', Same H H' → Rep X.K H' d v → OutA X H' (k d) QA → P v H') : Out X H o P := by
 match o, h with
 | some (.exc _), h => exact h
 | some (.ok d), h => exact fun v H1 e r => hp d v H1 e r (OutA.mono e h)
theorem Out.bindS {o : Option (Rs Dv)} {k : Dv → Option Fl} {P : VK} (h : OutS X H (fN o k) D) (hp : ∀ d v H', Same H H' → Rep X.K H' d v → OutS X H' (k d) D → P v H') : Out X H o P := by
 match o, h with
 | some (.exc _), h => exact h
 | some (.ok d), h => exact fun v H1 e r => hp d v H1 e r (OutS.mono e h)
theorem OutB.bind {o : Option (Rs Bool)} {k : Bool → Option (Rs Dv)} {P : Bool → Hp → Prop} (h : Out X H (bnd o k) Q) (hp : ∀ b H', Same H H' → Out X H' (k b) Q → P b H') : OutB X H o P := by
 match o, h with
 | some (.exc _), h => exact h
 | some (.ok d), h => exact fun H1 e => hp d H1 e (Out.mono e h)
theorem OutB.bindB {o : Option (Rs Bool)} {k : Bool → Option (Rs Bool)} {P : Bool → Hp → Prop} (h : OutB X H (bnd o k) QB) (hp : ∀ b H', Same H H' → OutB X H' (k b) QB → P b H') : OutB X H o P := by
 match o, h with
 | some (.exc _), h => exact h
 | some (.ok d), h => exact fun H1 e => hp d H1 e (OutB.mono e h)
theorem OutB.bindS {o : Option (Rs Bool)} {k : Bool → Option Fl} {P : Bool → Hp → Prop} (h : OutS X H (fN o k) D) (hp : ∀ b H', Same H H' → OutS X H' (k b) D → P b H') : OutB X H o P := by
 match o, h with
 | some (.exc _), h => exact h
 | some (.ok d), h => exact fun H1 e => hp d H1 e (OutS.mono e h)
theorem OutA.bind {o : Option (Rs (List Dv))} {k : List Dv → Option (Rs Dv)} {P : List V → Hp → Prop} (h : Out X H (bnd o k) Q) (hp : ∀ ds vs H', Same H H' → Reps X.K H' ds vs → Out X H' (k ds) Q → P vs H') : OutA X H o P := by
 match o, h with
 | some (.exc _), h => exact h
 | some (.ok d), h => exact fun v H1 e r => hp d v H1 e r (Out.mono e h)
theorem OutA.bindA {o : Option (Rs (List Dv))} {k : List Dv → Option (Rs (List Dv))} {P : List V → Hp → Prop} (h : OutA X H (bnd o k) QA) (hp : ∀ ds vs H', Same H H' → Reps X.K H' ds vs → OutA X H' (k ds) QA → P vs H') : OutA X H o P := by
 match o, h with
 | some (.exc _), h => exact h
 | some (.ok d), h => exact fun v H1 e r => hp d v H1 e r (OutA.mono e h)
end
abbrev FnE := Ev → Option (Rs Dv)
abbrev FnB := Ev → Option (Rs Bool)
abbrev FnA := Ev → Option (Rs (List Dv))
abbrev FnS := Ev → Option Fl
def tF (X : Cx) (f : FnE) : TE := fun σ H Q => ∃ ρ, Envs X.K H σ ρ ∧ Out X H (f ρ) Q
def tT (X : Cx) (f : FnB) : TT := fun σ H Q => ∃ ρ, Envs X.K H σ ρ ∧ OutB X H (f ρ) Q
def tA (X : Cx) (f : FnA) : TA := fun σ H Q => ∃ ρ, Envs X.K H σ ρ ∧ OutA X H (f ρ) Q
def tS (X : Cx) (f : FnS) : TS := fun D σ H => ∃ ρ, Envs X.K H σ ρ ∧ OutS X H (f ρ) D
structure FE (X : Cx) (e : Expr) (f : FnE) : Prop where
 h : PE X e (tF X f)
structure FT (X : Cx) (e : Expr) (f : FnB) : Prop where
 h : PT X e (tT X f)
structure FW (X : Cx) (e : Expr) (f : FnB) : Prop where
 h : PW X e (tT X f)
structure FA (X : Cx) (es : List Expr) (f : FnA) : Prop where
 h : PA X es (tA X f)
structure FS (X : Cx) (st : Stmt) (f : FnS) : Prop where
 h : PS X st (tS X f)
structure FSs (X : Cx) (st : List Stmt) (f : FnS) : Prop where
 h : PSs X st (tS X f)
section
variable {X : Cx} {a b c e : Expr} {es : List Expr} {fa fb fc : FnE} {pos : Pos}
theorem bj {t : TE} {f : FnE} (h : PE X e t) (w : ∀ σ H Q ρ, Envs X.K H σ ρ → Out X H (f ρ) Q → t σ H Q) : FE X e f :=
 ⟨fun pins s σ H Q I ⟨ρ, E, o⟩ => h pins s σ H Q I (w σ H Q ρ E o)⟩
theorem nO {t : TT} {f : FnB} (h : PT X e t) (w : ∀ σ H Q ρ, Envs X.K H σ ρ → OutB X H (f ρ) Q → t σ H Q) : FT X e f :=
 ⟨fun pins s σ H Q I ⟨ρ, E, o⟩ => h pins s σ H Q I (w σ H Q ρ E o)⟩
theorem ur {t : TT} {f : FnB} (h : PW X e t) (w : ∀ σ H Q ρ, Envs X.K H σ ρ → OutB X H (f ρ) Q → t σ H Q) : FW X e f :=
 ⟨fun wh pins s σ H Q I ⟨ρ, E, o⟩ => h wh pins s σ H Q I (w σ H Q ρ E o)⟩
theorem nP {st : Stmt} {t : TS} {f : FnS} (h : PS X st t) (w : ∀ D σ H ρ, Envs X.K H σ ρ → OutS X H (f ρ) D → t D σ H) : FS X st f :=
 ⟨fun pins s σ H D I ⟨ρ, E, o⟩ => h pins s σ H D I (w D σ H ρ E o)⟩
theorem pF {st : List Stmt} {t : TS} {f : FnS} (h : PSs X st t) (w : ∀ D σ H ρ, Envs X.K H σ ρ → OutS X H (f ρ) D → t D σ H) : FSs X st f :=
 ⟨fun pins s σ H D I ⟨ρ, E, o⟩ => h pins s σ H D I (w D σ H ρ E o)⟩
theorem FW.ft {f : FnB} (h : FW X e f) : FT X e f := ⟨h.h _⟩
def ae (i : Nat) : FnE := fun ρ => match ρ[i]? with
 | some (some d) => some (.ok d)
 | _ => none
def fC (d : Dv) : FnE := fun _ => some (.ok d)
theorem ut (i : Nat) (h : PE X e (pA i)) : FE X e (ae i) := bj h fun σ H Q ρ E o => by
 unfold ae at o
 split at o
 · rename_i d hd
   obtain ⟨v, h1, h2⟩ := E.at' i d hd
   exact ⟨v, h1, o v H (.refl H) h2⟩
 · exact o.elim
theorem glb {x : Str} (h : X.env.kindOf x = some .globalImplicit) : Gl X x := h
theorem cF (i : Nat) {x : Str} (hN : X.N[i]? = some x := by kernel_rfl) (hv : X.env.scope.names.lookup x = some .local := by kernel_rfl) (hd : (x == ("__debug__" : Str)) = false := by kernel_rfl) (hcd : (x == ("__classdict__" : Str)) = false := by kernel_rfl) : FE X (.Name x pos) (ae i) := ut i (kN hN (.inl hv) hd hcd)
theorem x6 (i : Nat) {x : Str} (hN : X.N[i]? = some x := by kernel_rfl) (hv : X.env.scope.names.lookup x = some .cell := by kernel_rfl) (hd : (x == ("__debug__" : Str)) = false := by kernel_rfl) (hcd : (x == ("__classdict__" : Str)) = false := by kernel_rfl) : FE X (.Name x pos) (ae i) := ut i (kN hN (.inr (.inl hv)) hd hcd)
theorem sR {d : Dv} {v : V} (h : PE X e (tC v)) (r : ∀ K H, Rep K H d v) : FE X e (fC d) := bj h fun _ H _ _ _ o => o v H (.refl H) (r X.K H)
theorem bq {i j} : FE X (.Constant (.int i) j pos) (fC (.int i)) := sR tD fun _ _ => rfl
theorem uu {b j} : FE X (.Constant (.bool b) j pos) (fC (.bl b)) := sR xD fun _ _ => rfl
theorem uv {j} : FE X (.Constant .none j pos) (fC .non) := sR tE fun _ _ => rfl
theorem bd {x j} : FE X (.Constant (.str x) j pos) (fC (.str x)) := sR tG fun _ _ => rfl
theorem qO {x : Str} {i : Int} {t : Tok} (hg : Gl X x) (hm : X.mg x = some (.int i t)) (hd : (x == ("__debug__" : Str)) = false := by kernel_rfl) : FE X (.Name x pos) (fC (.int i)) := sR (iq (v := .int i) hg hm ⟨t, rfl⟩ hd) fun _ _ => rfl
theorem qP {x : Str} {i : Str} {t : Tok} (hg : Gl X x) (hm : X.mg x = some (.str i t)) (hd : (x == ("__debug__" : Str)) = false := by kernel_rfl) : FE X (.Name x pos) (fC (.str i)) := sR (iq (v := .str i) hg hm ⟨t, rfl⟩ hd) fun _ _ => rfl
def f2 (g : Dv → Dv → Option (Rs Dv)) (fa fb : FnE) : FnE := fun ρ => bnd (fa ρ) fun x => bnd (fb ρ) fun y => g x y
def GOp (X : Cx) (r : R2) (g : Dv → Dv → Option (Rs Dv)) : Prop := ∀ dx dy x y H Q, Rep X.K H dx x → Rep X.K H dy y → Out X H (g dx dy) Q → r x y H Q
theorem two {r : R2} {g : Dv → Dv → Option (Rs Dv)} (hg : GOp X r g) {σ : L2.St} {H : Hp} {Q : VK} {ρ : Ev} (E : Envs X.K H σ ρ) (o : Out X H (f2 g fa fb ρ) Q) : tOp r (tF X fa) (tF X fb) σ H Q :=
 ⟨ρ, E, Out.bind o fun dx x H1 e1 rx o1 => ⟨ρ, E.mono e1, Out.bind o1 fun dy y H2 e2 ry o2 => hg dx dy x y H2 Q (Rep.mono e2 dx x rx) ry o2⟩⟩
theorem kj {op : Operator} {r : R2} {g : Dv → Dv → Option (Rs Dv)} (ho : OpR X (binaryOp op) r) (hg : GOp X r g) (ha : FE X a fa) (hb : FE X b fb) : FE X (.BinOp a op b pos) (f2 g fa fb) :=
 bj (tY ho ha.h hb.h) fun _ _ _ _ E o => two hg E o
theorem jr {op : CmpOp} {r : R2} {g : Dv → Dv → Option (Rs Dv)} (ho : OpR X (compareOp op) r) (hg : GOp X r g) (ha : FE X a fa) (hb : FE X b fb) (hm : behindInMarks op b = false) : FE X (.Compare a [op] [b] pos) (f2 g fa fb) :=
 bj (qH ho ha.h hb.h hm) fun _ _ _ _ E o => two hg E o
def toB : Dv → Option (Rs Bool)
 | .bl b => some (.ok b)
 | _ => none
def fB (f : FnE) : FnB := fun ρ => bnd (f ρ) toB
theorem dI {H : Hp} {d : Dv} {v : V} {QB : Bool → Hp → Prop} (r : Rep X.K H d v) (o : OutB X H (toB d) QB) : ∃ k, v = .bl k ∧ QB k H := by
 cases d with
 | bl b => exact ⟨b, r, o H (.refl H)⟩
 | _ => exact o.elim
theorem bK {op : CmpOp} {r : R2} {g : Dv → Dv → Option (Rs Dv)} (ho : OpR X (compareOp op) r) (hg : GOp X r g) (ha : FE X a fa) (hb : FE X b fb) (hm : behindInMarks op b = false) : FT X (.Compare a [op] [b] pos) (fB (f2 g fa fb)) :=
 nO (qI ho ha.h hb.h hm) fun σ H Q ρ E o => by
  show tOp r (tF X fa) (tF X fb) σ H _
  refine two hg E ?_
  exact Out.bindB o fun d v H' e r o' => dI r o'
theorem uw (ha : FE X a fa) (he : ∀ whole, isTrue a X.env whole = (do let v ← whole; standAt a.pos; holding [v] (truthy v)) := by intro _; kernel_rfl) : FT X a (fB fa) :=
 nO (tH ha.h he) fun σ H Q ρ E o => ⟨ρ, E, Out.bindB o fun d v H' e r o' => dI r o'⟩
def fg (g g' : Dv → Dv → Option (Rs Dv)) (fa fb fc : FnE) : FnE := fun ρ => bnd (fa ρ) fun x => bnd (fb ρ) fun y => bnd (g x y) fun z => bnd (toB z) fun k => if k then bnd (fc ρ) fun w => g' y w else some (.ok (.bl false))
def gJ (f g : FnB) : FnB := fun ρ => bnd (f ρ) fun k => if k then g ρ else some (.ok false)
def bOr (f g : FnB) : FnB := fun ρ => bnd (f ρ) fun k => if k then some (.ok true) else g ρ
def eQ (f : FnB) : FnB := fun ρ => bnd (f ρ) fun k => some (.ok (!k))
variable {ga gb : FnB} {rest : List Expr}
theorem qQ (ha : FT X a ga) : FW X (.BoolOp .And [a] pos) ga := ⟨qA ha.h⟩
theorem pG (ha : FT X a ga) : FW X (.BoolOp .Or [a] pos) ga := ⟨tI ha.h⟩
theorem pH (ha : FT X a ga) (hb : FW X (.BoolOp .And (b :: rest) pos) gb) : FW X (.BoolOp .And (a :: b :: rest) pos) (gJ ga gb) :=
 ur (tJ ha.h hb.h) fun σ H Q ρ E o => ⟨ρ, E, OutB.bindB o fun k H1 e o' => by
  cases k with
  | true => exact nq ⟨ρ, E.mono e, o'⟩
  | false => exact nn (o' H1 (.refl H1))⟩
theorem ux (ha : FT X a ga) (hb : FW X (.BoolOp .Or (b :: rest) pos) gb) : FW X (.BoolOp .Or (a :: b :: rest) pos) (bOr ga gb) :=
 ur (xE ha.h hb.h) fun σ H Q ρ E o => ⟨ρ, E, OutB.bindB o fun k H1 e o' => by
  cases k with
  | true => exact nq (o' H1 (.refl H1))
  | false => exact nn ⟨ρ, E.mono e, o'⟩⟩
theorem pI (ha : FT X a ga) : FT X (.UnaryOp .Not a pos) (eQ ga) :=
 nO (tK ha.h) fun σ H Q ρ E o => ⟨ρ, E, OutB.bindB o fun k H1 e o' => o' H1 (.refl H1)⟩
def kB (f g : FnE) : FnE := fun ρ => bnd (f ρ) fun x => bnd (toB x) fun k => if k then g ρ else some (.ok (.bl false))
def vOr (f g : FnE) : FnE := fun ρ => bnd (f ρ) fun x => bnd (toB x) fun k => if k then some (.ok (.bl true)) else g ρ
def sS (f : FnE) : FnE := fun ρ => bnd (f ρ) fun x => bnd (toB x) fun k => some (.ok (.bl (!k)))
theorem fP {H : Hp} {d : Dv} {v : V} {k : Bool → Option (Rs Dv)} {Q : VK} (r : Rep X.K H d v) (o : Out X H (bnd (toB d) k) Q) : ∃ b, v = .bl b ∧ Out X H (k b) Q := by
 cases d with
 | bl b => exact ⟨b, r, o⟩
 | _ => exact o.elim
theorem uy {op} (ha : FE X a fa) : FE X (.BoolOp op [a] pos) fa := ⟨tL ha.h⟩
theorem uz (ha : FE X a fa) (hb : FE X (.BoolOp .And (b :: rest) pos) fb) : FE X (.BoolOp .And (a :: b :: rest) pos) (kB fa fb) :=
 bj (tM ha.h hb.h) fun σ H Q ρ E o => ⟨ρ, E, Out.bind o fun d v H1 e r o' => by
  obtain ⟨k, rfl, o2⟩ := fP r o'
  refine ⟨k, rfl, ?_⟩
  cases k with
  | true => exact nq ⟨ρ, E.mono e, o2⟩
  | false => exact nn (o2 (.bl false) H1 (.refl H1) rfl)⟩
theorem x8 (ha : FE X a fa) (hb : FE X (.BoolOp .Or (b :: rest) pos) fb) : FE X (.BoolOp .Or (a :: b :: rest) pos) (vOr fa fb) :=
 bj (xH ha.h hb.h) fun σ H Q ρ E o => ⟨ρ, E, Out.bind o fun d v H1 e r o' => by
  obtain ⟨k, rfl, o2⟩ := fP r o'
  refine ⟨k, rfl, ?_⟩
  cases k with
  | true => exact nq (o2 (.bl true) H1 (.refl H1) rfl)
  | false => exact nn ⟨ρ, E.mono e, o2⟩⟩
theorem uA (ha : FE X a fa) : FE X (.UnaryOp .Not a pos) (sS fa) :=
 bj (tN ha.h) fun σ H Q ρ E o => ⟨ρ, E, Out.bind o fun d v H1 e r o' => by
  obtain ⟨k, rfl, o2⟩ := fP r o'
  exact ⟨k, rfl, o2 (.bl (!k)) H1 (.refl H1) rfl⟩⟩
def al : FnA := fun _ => some (.ok [])
def aa (f : FnE) (g : FnA) : FnA := fun ρ => bnd (f ρ) fun x => bnd (g ρ) fun xs => some (.ok (x :: xs))
theorem uB {t : TA} {f : FnA} (h : PA X es t) (w : ∀ σ H Q ρ, Envs X.K H σ ρ → OutA X H (f ρ) Q → t σ H Q) : FA X es f :=
 ⟨fun pos pins s σ H Q I ⟨ρ, E, o⟩ => h pos pins s σ H Q I (w σ H Q ρ E o)⟩
theorem b5 : FA X [] al := uB eY fun _ H _ _ _ o => o [] H (.refl H) rfl
theorem aX {g : FnA} (ha : FE X e fa) (hr : FA X es g) (hs : starEach (e :: es) X.env = (false, eval e X.env) :: starEach es X.env := by kernel_rfl) : FA X (e :: es) (aa fa g) :=
 uB (bH ha.h hr.h hs) fun σ H Q ρ E o => ⟨ρ, E, Out.bindA o fun d v H1 e r o1 => ⟨ρ, E.mono e, OutA.bindA o1 fun ds vs H2 e2 rs o2 => o2 (v :: vs) H2 (.refl H2) ⟨v, vs, rfl, Rep.mono e2 d v r, rs⟩⟩⟩
def gx (g : FnA) : FnE := fun ρ => bnd (g ρ) fun ds => if ds.length ≤ 100000 then some (.ok (.lst ds)) else none
def cU (g : FnA) : FnE := fun ρ => bnd (g ρ) fun ds => if ds.length ≤ 100000 then some (.ok (.tup ds)) else none
theorem aI {n : Nat} (h : n ≤ 100000) : n ≤ sizeLine := Nat.le_trans h (by rw [sizeLine_eq]; decide)
theorem pJ {g : FnA} (h : FA X es g) : FE X (.List es pos) (gx g) :=
 bj (pE h.h) fun σ H Q ρ E o => ⟨ρ, E, OutA.bind o fun ds vs H1 e rs o1 => by
  split at o1
  · rename_i hl
    refine ⟨by rw [rs.length]; exact aI hl, fun p hp => o1 (.ref p) _ (ao hp _) ⟨p, vs, rfl, am, Reps.mono (ao hp _) _ _ rs⟩⟩
  · exact o1.elim⟩
theorem jt {g : FnA} {k} (h : FA X es g) : FE X (.Tuple es k pos) (cU g) :=
 bj (pD h.h) fun σ H Q ρ E o => ⟨ρ, E, OutA.bind o fun ds vs H1 e rs o1 => by
  split at o1
  · rename_i hl
    refine ⟨by rw [rs.length]; exact aI hl, fun p hp => o1 (.ref p) _ (ao hp _) ⟨p, vs, rfl, am, Reps.mono (ao hp _) _ _ rs⟩⟩
  · exact o1.elim⟩
variable {st : Stmt} {sts : List Stmt} {f g : FnS}
theorem fQ : FSs X [] (fun ρ => some (.nx ρ)) := pF iu fun D σ H ρ E o => o σ H (.refl H) E
def aT (f g : FnS) : FnS := fun ρ => sq (f ρ) g
theorem dJ (h1 : FS X st f) (h2 : FSs X sts g) : FSs X (st :: sts) (aT f g) :=
 pF (bV h1.h h2.h) fun D σ H ρ E o => ⟨ρ, E, by
  unfold aT at o
  match hf : f ρ with
  | none => rw [hf] at o; exact o.elim
  | some (.exc c) => rw [hf] at o; exact o
  | some (.rt d) => rw [hf] at o; exact o
  | some (.nx ρ') => rw [hf] at o; exact fun σ' H' e E' => ⟨ρ', E', OutS.mono e o⟩⟩
theorem df (h1 : FS X st f) : FSs X [st] f := ⟨fJ h1.h⟩
def bD (f : FnE) : FnS := fun ρ => fN (f ρ) fun d => some (.rt d)
theorem fj (he : FE X e fa) : FS X (.Return (some e) pos) (bD fa) :=
 nP (kP he.h) fun D σ H ρ E o => ⟨ρ, E, Out.bindS o fun d v H1 e r o1 => o1 v H1 (.refl H1) r⟩
def bZ (i : Nat) (f : FnE) : FnS := fun ρ => fN (f ρ) fun d => some (.nx (ρ.set i (some d)))
theorem pK (i : Nat) {x : Str} {pos' : Pos} (hN : X.N.Nodup) (hi : X.N[i]? = some x) (hx : Loc X.env.scope x) (he : FE X e fa) (hs : swapsWith e (some (.Name x pos')) pos.line X.env = pure false := by kernel_rfl) (hf : X.fn x = true ∨ X.env.scope.names.lookup x = some .local := by first | exact .inl rfl | exact .inr rfl | assumption) :
 FS X (.Assign [.Name x pos'] e pos) (bZ i fa) :=
 nP (eW hN hi hx he.h hs hf) fun D σ H ρ E o => ⟨ρ, E, Out.bindS o fun d v H1 e r o1 => o1 _ H1 (.refl H1) ((E.mono e).set r)⟩
def bL (c : FnB) (f g : FnS) : FnS := fun ρ => fN (c ρ) fun k => if k then f ρ else g ρ
theorem uC {as bs : List Stmt} (hc : FT X c ga) (ha : FSs X as f) (hb : FSs X bs g) : FS X (.If c as bs pos) (bL ga f g) :=
 nP (qC hc.h ha.h hb.h) fun D σ H ρ E o => ⟨ρ, E, OutB.bindS o fun k H1 e o1 => by
  cases k with
  | true => exact nq ⟨ρ, E.mono e, o1⟩
  | false => exact nn ⟨ρ, E.mono e, o1⟩⟩
end
def Its (z : Str) : It := ⟨fun i _ => i < z.cps.size, fun i H x H' => H' = H ∧ ∃ c, z.cps[i]? = some c ∧ x = .str ⟨#[c]⟩, fun i _ => i = z.cps.size⟩
theorem gK {prog : Program} {w : World} {A : Around} (hh : A.handled = none) (I : Addr) (x : Str) (t : Tok) {ty : String} (hty : ty = "str_ascii_iterator" ∨ ty = "str_iterator") :
 Walks prog w A I [I] [I] x.cps.size (SignAt x) (fun i h => h.IsStrIter I ty x t i) := by
 rcases hty with rfl | rfl
 · exact Walks.strAscii hh I x t
 · exact Walks.strWide hh I x t
theorem nQ {P : Program} {w : World} {K : PySem.W.Frag} {tg : Expr} (z : Str) (t : Tok) (it : Addr) {ty : String} (hty : ty = "str_ascii_iterator" ∨ ty = "str_iterator") : pB P w K tg (Its z) [it] it (fun i h => h.IsStrIter it ty z t i) where
 mem := by simp
 obj := fun i h st b hb => by
  have e : b = it := by simpa using hb
  subst e
  obtain ⟨o, e, c, d⟩ := st
  exact ⟨o, e, fun v z => by rw [d] at z; cases z⟩
 keep := fun i h h' st k => let ⟨o, ho, r⟩ := st; ⟨o, k it (by simp) o ho, r⟩
 item := by
  intro X hP hw hK hc i pins s σ H E I hf st hg
  subst hP hw hK
  obtain ⟨f0, f1, f2, f3, f4, f5⟩ := hf it (by simp)
  have W := gK (prog := X.prog) (w := X.w) (I.ok.hd hc) it z t hty
  refine W.item i s _ _ hg st fun v h' tk hv st' kk => ?_
  obtain ⟨c, u, hc', rfl⟩ := hv
  have I1 : Inv X pins σ H { s with heap := h', toks := tk } := I.turned (fun b o hb e => kk b o (by simpa using hb) e) f0 f1 f3 f4 f5
  obtain ⟨o, e, c', d⟩ := id st'
  refine ⟨_, rfl, nF (s := { s with heap := h', toks := tk }) e c' d (by rcases hty with rfl | rfl <;> decide) ⟨.str ⟨#[c]⟩, H, I1, ⟨u, rfl⟩, ⟨rfl, c, hc', rfl⟩, st', fun b hb => (hf b hb).1⟩⟩
 done := by
  intro X hP hw hK hc i pins s σ H E I hf st hg
  subst hP hw hK
  obtain ⟨f0, f1, f2, f3, f4, f5⟩ := hf it (by simp)
  have W := gK (prog := X.prog) (w := X.w) (I.ok.hd hc) it z t hty
  have hg' : i = z.cps.size := hg
  subst hg'
  exact W.done s _ _ st fun h' tk kk => ⟨rfl, I.turned (fun b o hb e => kk b o (by simpa using hb) e) f0 f1 f3 f4 f5⟩
 self := fun A i s Q E st h => by
  rcases hty with rfl | rfl
  · exact wpAny_pyIter_striter_ascii st h
  · exact wpAny_pyIter_striter_wide st h
structure Wk (K : PySem.W.Frag) (J : It) (ds : List Dv) (H0 : Hp) : Prop where
 go : ∀ i H, Same H0 H → i < ds.length → J.go i H
 stop : ∀ H, Same H0 H → J.stop ds.length H
 yld : ∀ i H x H', Same H0 H → i < ds.length → J.yld i H x H' → H' = H ∧ ∃ d, ds[i]? = some d ∧ Rep K H d x
def OutI (X : Cx) (H : Hp) (o : Option (Rs (List Dv))) (R : It → Hp → Prop) : Prop := match o with
 | none => False
 | some (.exc c) => XW X c H
 | some (.ok ds) => ∀ J H', Same H H' → Wk X.K J ds H' → R J H'
structure FI (X : Cx) (tg iter : Expr) (f : FnA) : Prop where
 h : PI X tg iter fun σ H R => ∃ ρ, Envs X.K H σ ρ ∧ OutI X H (f ρ) R
theorem OutI.mono {X : Cx} {H H' : Hp} {R : It → Hp → Prop} (e : Same H H') : ∀ {o : Option (Rs (List Dv))}, OutI X H o R → OutI X H' o R
 | none, h => h
 | some (.exc _), h => XW.mono h e
 | some (.ok _), h => fun v H1 e1 r => h v H1 (e.trans e1) r
def signs (z : Str) : List Dv := z.cps.toList.map fun c => .str ⟨#[c]⟩
def items : Dv → Option (Rs (List Dv))
 | .lst ds => some (.ok ds)
 | .tup ds => some (.ok ds)
 | .str z => some (.ok (signs z))
 | _ => none
def b7 (f : FnE) : FnA := fun ρ => bnd (f ρ) items
theorem qR {K : PySem.W.Frag} {H : Hp} {a : Addr} {xs : List V} {ds : List Dv} (h : H a = some (.lst xs)) (r : Reps K H ds xs) : Wk K (Itl K a) ds H where
 go := fun i H' e hi => by
  have hx : i < xs.length := by rw [r.length]; exact hi
  exact ⟨xs, xs[i], SqL.of (e _ _ h), by simp [hx]⟩
 stop := fun H' e => ⟨xs, SqL.of (e _ _ h), by rw [r.length]; exact Nat.le_refl _⟩
 yld := fun i H' x H2 e hi y => by
  obtain ⟨e2, y⟩ := y
  obtain ⟨d, h1, h2⟩ := Reps.get (Reps.mono e _ _ r) (y xs (SqL.of (e _ _ h)))
  exact ⟨e2, d, h1, h2⟩
theorem uD {K : PySem.W.Frag} {H : Hp} {a : Addr} {xs : List V} {ds : List Dv} (h : H a = some (.tup xs)) (r : Reps K H ds xs) : Wk K (Itt K a) ds H where
 go := fun i H' e hi => by
  have hx : i < xs.length := by rw [r.length]; exact hi
  exact ⟨xs, xs[i], SqT.of (e _ _ h), by simp [hx]⟩
 stop := fun H' e => ⟨xs, SqT.of (e _ _ h), by rw [r.length]; exact Nat.le_refl _⟩
 yld := fun i H' x H2 e hi y => by
  obtain ⟨e2, y⟩ := y
  obtain ⟨d, h1, h2⟩ := Reps.get (Reps.mono e _ _ r) (y xs (SqT.of (e _ _ h)))
  exact ⟨e2, d, h1, h2⟩
theorem uE {K : PySem.W.Frag} {H : Hp} {z : Str} : Wk K (Its z) (signs z) H where
 go := fun i H' e hi => by show i < z.cps.size; simpa [signs] using hi
 stop := fun H' e => by show (signs z).length = z.cps.size; simp [signs]
 yld := fun i H' x H2 e hi y => by
  obtain ⟨e2, c, hc, rfl⟩ := y
  refine ⟨e2, .str ⟨#[c]⟩, ?_, rfl⟩
  have hc' : z.cps.toList[i]? = some c := by simpa using hc
  rw [signs, List.getElem?_map, hc'] <;> rfl
def rng (lo : Int) : Nat → List Dv
 | 0 => []
 | n + 1 => .int lo :: rng (lo + 1) n
theorem cx : ∀ (n : Nat) (lo : Int), (rng lo n).length = n
 | 0, _ => rfl
 | n + 1, lo => by show (rng (lo + 1) n).length + 1 = n + 1; rw [cx]
theorem lh : ∀ (n : Nat) (lo : Int) (i : Nat), i < n → (rng lo n)[i]? = some (.int (lo + i))
 | 0, _, _, h => by omega
 | n + 1, lo, 0, _ => by simp [rng]
 | n + 1, lo, i + 1, h => by
  have q := lh n (lo + 1) i (by omega)
  show (Dv.int lo :: rng (lo + 1) n)[i + 1]? = _
  rw [List.getElem?_cons_succ, q]
  congr 2
  omega
theorem nR {K : PySem.W.Frag} {H : Hp} {lo : Int} {n : Nat} : Wk K (Itr lo n) (rng lo n) H where
 go := fun i H' e hi => by rw [cx] at hi; exact hi
 stop := fun H' e => by show n ≤ (rng lo n).length; rw [cx]; exact Nat.le_refl _
 yld := fun i H' x H2 e hi y => by
  obtain ⟨e2, rfl⟩ := y
  rw [cx] at hi
  exact ⟨e2, _, lh n lo i hi, rfl⟩
section
variable {X : Cx} {tg l a b : Expr} {fl : FnE} {pos p : Pos}
theorem li (hl : FE X l fl) : FI X tg l (b7 fl) := by
 constructor
 intro pins s σ H R I h
 obtain ⟨ρ, E, o⟩ := h
 have key : Out X H (fl ρ) fun x H1 => ∃ d, Rep X.K H1 d x ∧ OutI X H1 (items d) R := by
  unfold b7 at o
  match hf : fl ρ, o with
  | some (.exc c), o => exact o
  | some (.ok d), o => exact fun v H1 e r => ⟨d, r, OutI.mono e o⟩
  | none, o => exact o
 refine thn (hl.h pins s σ H _ I ⟨ρ, E, key⟩) fun v s1 ⟨x, H1, I1, r1, d, rd, q⟩ => ?_
 have fin : ∀ (o : Obj) (tn : Nat → Heap → Prop) (J : It) (ds : List Dv), pB X.prog X.w X.K tg J [s1.heap.objs.size] s1.heap.objs.size tn → tn 0 (s1.heap.push o) → Wk X.K J ds H1 → (∀ J H', Same H1 H' → Wk X.K J ds H' → R J H') →
  PIE X pins σ tg R (.ref s1.heap.objs.size) { s1 with heap := s1.heap.push o } := fun o tn J ds T t0 w q => by
  refine ⟨s1.heap.objs.size, [s1.heap.objs.size], tn, J, H1, rfl, I1.kept (t' := s1.toks) fun b o e => Heap.get?_push_of_some _ e, T, t0, fun b hb => ?_, q J H1 (.refl H1) w⟩
  have e : b = s1.heap.objs.size := by simpa using hb
  subst e
  exact I1.fpOk (Nat.le_refl _) (I1.hok.fresh (Nat.le_refl _))
 cases d with
 | lst ds =>
  obtain ⟨a, xs, rfl, h1, h2⟩ := rd.lstE
  cases r1
  obtain ⟨its, rv, p, hz⟩ := I1.list (SqL.of h1)
  exact wpAny_pyIter_list p.isList (fin _ _ (Itl X.K a) ds (gz a _) ⟨_, Heap.get?_push_size _ rfl, rfl, rfl⟩ (qR h1 h2) q)
 | tup ds =>
  obtain ⟨a, xs, rfl, h1, h2⟩ := rd.tupE
  cases r1
  obtain ⟨its, rv, p, hz⟩ := I1.tuple (SqT.of h1)
  exact wpAny_pyIter_tuple (show s1.heap.IsTuple a its.toArray from p) (fin _ _ (Itt X.K a) ds (eX a _) ⟨_, Heap.get?_push_size _ rfl, rfl, rfl⟩ (uD h1 h2) q)
 | str z =>
  cases (show x = .str z from rd)
  obtain ⟨t, rfl⟩ := r1
  have hty : strIterType z = "str_ascii_iterator" ∨ strIterType z = "str_iterator" := by
   unfold strIterType
   split
   · exact .inl rfl
   · exact .inr rfl
  exact wpAny_pyIter_strU (fin _ _ (Its z) (signs z) (nQ z t _ hty) ⟨_, Heap.get?_push_size _ rfl, rfl, rfl⟩ uE q)
 | _ => exact q.elim
def pL : List Dv → Option (Rs (List Dv))
 | [.int j] => if -(2 ^ 62) ≤ j ∧ j < 2 ^ 62 then some (.ok (rng 0 j.toNat)) else none
 | _ => none
theorem kl {H : Hp} {R : It → Hp → Prop} {o : Option (Rs (List Dv))} {k : List Dv → Option (Rs (List Dv))} {P : List V → Hp → Prop} (h : OutI X H (bnd o k) R) (hp : ∀ ds vs H', Same H H' → Reps X.K H' ds vs → OutI X H' (k ds) R → P vs H') : OutA X H o P := by
 match o, h with
 | some (.exc _), h => exact h
 | some (.ok d), h => exact fun v H1 e r => hp d v H1 e r (OutI.mono e h)
theorem lj {ga : FnA} (hg : Gl X "range") (hm : X.mg "range" = none) (ha : FA X [a] ga) (hs : starEach [a] X.env = [(false, eval a X.env)] := by kernel_rfl) : FI X tg (.Call (.Name "range" p) [a] [] pos) (fun ρ => bnd (ga ρ) pL) := by
 constructor
 intro pins s σ H R I h
 obtain ⟨ρ, E, o⟩ := h
 refine kQ hg hm ha.h hs pins s σ H R I ⟨ρ, E, kl o fun ds vs H' e rs o1 => ?_⟩
 unfold pL at o1
 split at o1
 · rename_i j
   split at o1
   · rename_i hj
     obtain ⟨v, us, rfl, r, t⟩ : ∃ v us, vs = v :: us ∧ Rep X.K H' (.int j) v ∧ Reps X.K H' [] us := rs
     cases (show us = [] from t)
     cases (show v = .int j from r)
     exact ⟨j, rfl, hj.1, hj.2, o1 _ H' (.refl H') nR⟩
   · exact o1.elim
 · exact o1.elim
end
def cV (i : Nat) (js : List Nat) (body : FnS) : List Dv → Ev → Option Fl
 | [], ρ => some (.nx (fgt js ρ))
 | d :: ds, ρ => match body ((fgt js ρ).set i (some d)) with
  | some (.nx ρ') => cV i js body ds ρ'
  | o => o
def ll (i : Nat) (js : List Nat) (src : FnA) (body : FnS) : FnS := fun ρ => fN (src ρ) fun ds => cV i js body ds ρ
theorem bM {α : Type} {ds : List α} {i : Nat} {d : α} (h : ds[i]? = some d) : ds.drop i = d :: ds.drop (i + 1) := by
 obtain ⟨hi, e⟩ := List.getElem?_eq_some_iff.mp h
 rw [List.drop_eq_getElem_cons hi, e]
theorem uF {X : Cx} {tg iter : Expr} {body : List Stmt} {pos : Pos} {src : FnA} {fb : FnS} (i : Nat) (js : List Nat) (hp : PassesOwn (model X.prog X.w) X.A X.env X.xe) (hc : X.calm = true) (hi : FI X tg iter src) (hg : PG X tg (j8 i)) (hb : FSs X body fb)
 (hs : ∀ x, foldedSetIterable iter X.env x = pure x := by intro _; kernel_rfl) : FS X (.For tg iter body [] pos) (ll i js src fb) := by
 refine nP (jl hp hc hi.h hg hb.h hs) fun D σ H ρ E o => ⟨ρ, E, ?_⟩
 unfold ll at o
 match hf : src ρ, o with
 | none, o => exact o
 | some (.exc c), o => exact o
 | some (.ok ds), o =>
  intro J H1 e1 wk
  have o1 : OutS X H1 (cV i js fb ds ρ) D := OutS.mono e1 o
  refine ⟨fun n m σ' H' => m = ds.length - n ∧ n ≤ ds.length ∧ Same H1 H' ∧ ∃ ρ', Envs X.K H' σ' ρ' ∧ OutS X H' (cV i js fb (ds.drop n) ρ') D, ⟨ds.length, by simp, Nat.zero_le _, .refl H1, ρ, E.mono e1, by simpa using o1⟩, ?_⟩
  rintro n m σ' H' ⟨rfl, hn, e2, ρ', E', o'⟩
  by_cases hlt : n < ds.length
  · refine .inr ⟨wk.go n H' e2 hlt, fun σ2 H2 => Same H1 H2 ∧ ∃ ρ2, Envs X.K H2 σ2 ρ2 ∧ OutS X H2 (cV i js fb (ds.drop (n + 1)) ρ2) D, fun σ2 H2 ⟨e3, ρ2, E2, o2⟩ => ⟨ds.length - (n + 1), by omega, rfl, hlt, e3, ρ2, E2, o2⟩, fun x H2 y => ?_⟩
    obtain ⟨rfl, d, hd, rd⟩ := wk.yld n H' x H2 e2 hlt y
    rw [bM hd] at o'
    show tS X fb _ _ _
    refine ⟨(fgt js ρ').set i (some d), (Envs.fgt js E').set rd, ?_⟩
    unfold cV at o'
    match hb' : fb ((fgt js ρ').set i (some d)) with
    | none => rw [hb'] at o'; exact o'
    | some (.exc c) => rw [hb'] at o'; exact o'
    | some (.rt r) => rw [hb'] at o'; exact o'
    | some (.nx ρ2) => rw [hb'] at o'; exact fun σ2 H3 e3 E3 => ⟨e2.trans e3, ρ2, E3, OutS.mono e3 o'⟩
  · have hn' : n = ds.length := by omega
    subst hn'
    rw [List.drop_length] at o'
    exact .inl ⟨wk.stop H' e2, o' σ' H' (.refl H') (Envs.fgt js E')⟩
def spF (K : PySem.W.Frag) (F : List Dv → Option (Rs Dv)) (n : Nat) : Sp := fun vs H Q _ => ∃ ds, Reps K H ds vs ∧ ds.length = n ∧ match F ds with
 | some (.ok d) => ∀ v H', Same H H' → Rep K H' d v → Q v H'
 | _ => False
def ay (F : List Dv → Option (Rs Dv)) (n : Nat) (g : FnA) : FnE := fun ρ => bnd (g ρ) fun ds => if ds.length = n then (match F ds with | some (.ok d) => some (.ok d) | _ => none) else none
section
variable {X : Cx} {k n : Nat} {f : Addr} {fd : FuncData} {ps : List Str} {x : Str} {p pos : Pos} {e : Expr} {es : List Expr} {F : List Dv → Option (Rs Dv)} {g : FnA}
theorem qS (G : FnOk X.prog X.w X.K X.mg X.base CX0 k f fd ps (spF X.K F n)) (hr : Room k X.A) (hg : Gl X x) (hm : X.mg x = some (.ref f)) (hk : PySem.W.keepIn X.K (.ref f) = true) (hb : Binds X.K fd ps [])
 (ha : FA X (e :: es) g) (hdb : (x == ("__debug__" : Str)) = false := by kernel_rfl) (he : starEach (e :: es) X.env = (false, eval e X.env) :: starEach es X.env := by kernel_rfl) (hpl : (backTo pos (starEach es X.env)).any (·.1) = false := by kernel_rfl) :
 FE X (.Call (.Name x p) (e :: es) [] pos) (ay F n g) :=
 bj (iz G hr hg hm hk hb .nil uo ha.h hdb he hpl) fun σ H Q ρ E o => ⟨ρ, E, OutA.bind o fun ds vs H' e rs o1 => by
  show spF X.K F n (vs ++ []) H' Q E0
  rw [List.append_nil]
  split at o1
  · rename_i hl
    refine ⟨ds, rs, hl, ?_⟩
    match hF : F ds with
    | some (.ok d) => rw [hF] at o1; exact o1
    | some (.exc c) => rw [hF] at o1; exact o1
    | none => rw [hF] at o1; exact o1
  · exact o1.elim⟩
def Has (P : Program) (w : World) (K : PySem.W.Frag) (mg : Str → Option Value) (base : Heap) (x : Str) (k : Nat) (ps : List Str) (F : List Dv → Option (Rs Dv)) : Prop :=
 ∃ f fd, FnOk P w K mg base CX0 k f fd ps (spF K F ps.length) ∧ mg x = some (.ref f) ∧ PySem.W.keepIn K (.ref f) = true ∧ Binds K fd ps []
theorem nU {k' : Nat} (k : Nat) (ps : List Str) (F : List Dv → Option (Rs Dv)) (h : Has X.prog X.w X.K X.mg X.base x k ps F) (hr : Room k' X.A) (hk : k ≤ k') (hg : Gl X x) (ha : FA X (e :: es) g) (hn : n = ps.length := by kernel_rfl) (hdb : (x == ("__debug__" : Str)) = false := by kernel_rfl)
 (he : starEach (e :: es) X.env = (false, eval e X.env) :: starEach es X.env := by kernel_rfl) (hpl : (backTo pos (starEach es X.env)).any (·.1) = false := by kernel_rfl) :
 FE X (.Call (.Name x p) (e :: es) [] pos) (ay F n g) := by
 subst hn
 obtain ⟨f, fd, G, hm, hkp, hb⟩ := h
 exact qS (G.mono hk) hr hg hm hkp hb ha hdb he hpl
def dD (m : Nat) (fb : FnS) : List Dv → Option (Rs Dv) := fun ds => match fb (ds.map some ++ List.replicate (m - ds.length) none) with
 | some (.nx _) => some (.ok .non)
 | some (.rt d) => some (.ok d)
 | _ => none
theorem cy {K : PySem.W.Frag} {H : Hp} {N : List Str} {ds : List Dv} {vs : List V} (r : Reps K H ds vs) : Envs K H (L2.start N vs) (ds.map some ++ List.replicate (N.length - ds.length) none) := by
 have hl := r.length
 refine ⟨by unfold L2.start; rw [List.length_append, List.length_append, List.length_map, List.length_map, List.length_replicate, List.length_replicate, hl], fun i d h => ?_⟩
 by_cases hi : i < ds.length
 · rw [List.getElem?_append_left (by simpa using hi), List.getElem?_map] at h
   cases hd : ds[i]? with
   | none => rw [hd] at h; cases h
   | some d' =>
    rw [hd] at h
    have h' : some (some d') = some (some d) := h
    injection h' with h'
    injection h' with h'
    subst h'
    obtain ⟨v, h1, h2⟩ := r.get' hd
    refine ⟨v, ?_, h2⟩
    unfold L2.start
    rw [List.getElem?_append_left (by rw [List.length_map, hl]; exact hi), List.getElem?_map, h1] <;> rfl
 · rw [List.getElem?_append_right (by simpa using hi), List.getElem?_replicate] at h
   split at h <;> cases h
theorem x9 {P : Program} {w : World} {K : PySem.W.Frag} {mg : Str → Option Value} {base : Heap} {qual : Str} {st : Stmt} {N : List Str} {fb : FnS} (Fn : Fun K x qual st f fd) (S : bX N ps (ah st))
 (hb : ∀ (cdv : Value) (A : Around) (outer : List Env) (s : Shared) (H : Hp) (E : XK), Room k (A.deeper (envOfC qual (ah st) s.heap.objs.size f cdv)) → FSs (ik CX0 P w K mg base N qual (ah st) f cdv A outer s H E).nox (aN st) fb) :
 FnOk P w K mg base CX0 (k + 1) f fd ps (spF K (dD N.length fb) ps.length) := by
 refine Fn.ok S (fun vs H Q E h => ?_) (fun cdv A outer s H vs Q E hr h => ?_)
 · obtain ⟨ds, r, hl, _⟩ := h
   rw [r.length, hl]
 · obtain ⟨ds, r, hl, q⟩ := h
   refine ⟨_, (hb cdv A outer s H E hr).h, ds.map some ++ List.replicate (N.length - ds.length) none, cy r, ?_⟩
   unfold dD at q
   match hf : fb (ds.map some ++ List.replicate (N.length - ds.length) none) with
   | none => rw [hf] at q; exact q.elim
   | some (.exc c) => rw [hf] at q; exact q.elim
   | some (.rt d) => rw [hf] at q; exact fun v H' e r' => q v H' e r'
   | some (.nx ρ) => rw [hf] at q; exact fun σ' H' e _ => q .non H' e rfl
end
theorem pM {k : Nat} {f : Addr} {fd : FuncData} {x : Str} {P : Program} {w : World} {K : PySem.W.Frag} {mg : Str → Option Value} {base : Heap} {qual : Str} {st : Stmt} {F : List Dv → Option (Rs Dv)} {n : Nat} (N ps : List Str) (fb : FnS) (hF : F = dD N.length fb) (hn : n = ps.length)
 (Fn : Fun K x qual st f fd) (S : bX N ps (ah st))
 (hb : ∀ (cdv : Value) (A : Around) (outer : List Env) (s : Shared) (H : Hp) (E : XK), Room k (A.deeper (envOfC qual (ah st) s.heap.objs.size f cdv)) → FSs (ik CX0 P w K mg base N qual (ah st) f cdv A outer s H E).nox (aN st) fb) :
 FnOk P w K mg base CX0 (k + 1) f fd ps (spF K F n) := by
 subst hF hn
 exact x9 Fn S hb
def cz (names : List (Str × NameKind)) (env : Env) (acc : List (Str × Addr)) : List (Str × Addr) := match names with
 | [] => acc
 | (n, k) :: r => cz r env (if k == .free then (n, (env.cells.lookup n).getD 0) :: acc else acc)
theorem dg {env : Env} {n : Str} {c : Addr} : ∀ (names : List (Str × NameKind)) (acc : List (Str × Addr)), (cz names env acc).lookup n = some c → acc.lookup n = some c ∨ ((n, NameKind.free) ∈ names ∧ c = (env.cells.lookup n).getD 0)
 | [], acc, h => .inl h
 | (m, k) :: r, acc, h => by
  rcases dg r _ h with q | ⟨q1, q2⟩
  · by_cases hk : k = .free
    · subst hk
      simp only [beq_self_eq_true, if_true] at q
      rw [List.lookup_cons] at q
      cases hm : n == m with
      | true =>
       rw [hm] at q
       have e : n = m := by simpa using hm
       subst e
       exact .inr ⟨List.mem_cons_self, (Option.some.inj q).symm⟩
      | false => rw [hm] at q; exact .inl q
    · have hb : (k == NameKind.free) = false := by simpa using hk
      rw [hb] at q
      exact .inl (by simpa using q)
  · exact .inr ⟨List.mem_cons_of_mem _ q1, q2⟩
theorem gL {env : Env} {n : Str} : ∀ (names : List (Str × NameKind)) (acc : List (Str × Addr)), (acc.lookup n).isSome = true → ((cz names env acc).lookup n).isSome = true
 | [], acc, h => h
 | (m, k) :: r, acc, h => by
  refine gL r _ ?_
  split
  · rw [List.lookup_cons]
    cases n == m with
    | true => rfl
    | false => exact h
  · exact h
theorem cW {env : Env} {n : Str} : ∀ (names : List (Str × NameKind)) (acc : List (Str × Addr)), (n, NameKind.free) ∈ names → ((cz names env acc).lookup n).isSome = true
 | [], acc, h => by cases h
 | (m, k) :: r, acc, h => by
  rcases List.mem_cons.mp h with e | q
  · injection e with e1 e2
    subst e1
    subst e2
    refine gL r _ ?_
    simp only [beq_self_eq_true, if_true, List.lookup_cons]
    rfl
  · exact cW r _ q
theorem a6 {β : Type} {n : Str} {k : β} : ∀ {l : List (Str × β)}, l.lookup n = some k → (n, k) ∈ l
 | [], h => by simp at h
 | (m, j) :: r, h => by
  rw [List.lookup_cons] at h
  cases hm : n == m with
  | true =>
   rw [hm] at h
   have e : n = m := by simpa using hm
   subst e
   have e2 : j = k := Option.some.inj h
   subst e2
   exact List.mem_cons_self
  | false => rw [hm] at h; exact List.mem_cons_of_mem _ (a6 h)
def aD (X : Cx) (N : List Str) (scope : Scope) (C : Addr) (s : Shared) (H : Hp) (fp : List Addr) : Cx :=
 { X with N := N, s₀ := s, H₀ := H, env := compEnvC scope (cz scope.names X.env []) C X.env, outer := X.stack, stack := X.stack, ex := fp, fn := fun _ => false, pn := [], xe := fun _ _ => False }
structure zk (osc scope : Scope) (x : Str) (cs : List (Str × Nat)) (N : List Str) : Prop where
 kind : scope.kind = .function
 okind : osc.kind = .function
 cell : ∀ y ∈ scope.names, y.2 ≠ .cell
 names : ∀ y ∈ scope.names, y.2 = .local → scope.names.lookup y.1 = some .local
 tgt : scope.names.lookup x = some .local
 nd : (x :: cs.map (·.1)).Nodup
 free : ∀ y ∈ scope.names, y.2 = .free → osc.names.lookup y.1 = some .cell ∨ osc.names.lookup y.1 = some .free
 caps : ∀ c ∈ cs, N[c.2]? = some c.1 ∧ scope.names.lookup c.1 = some .free
theorem cf {scope : Scope} {env : Env} {n : Str} {k : NameKind} (h : (relabel scope env).names.lookup n = some k) : (n, k) ∈ scope.names ∨ (k = .cell ∧ (n, NameKind.free) ∈ scope.names) := by
 have q := a6 h
 unfold relabel at q
 obtain ⟨⟨m, j⟩, hm, e⟩ := List.mem_map.mp q
 dsimp only at e
 split at e
 · rename_i hc
   injection e with e1 e2
   subst e1
   have hj : j = .free := by
    rw [Bool.and_eq_true, Bool.and_eq_true] at hc
    simpa using hc.1.1
   subst hj
   exact .inr ⟨e2.symm, hm⟩
 · injection e with e1 e2
   subst e1
   subst e2
   exact .inl hm
theorem cg {env : Env} : ∀ {names : List (Str × NameKind)} {n : Str}, names.lookup n = some .free →
 (names.map fun (n, k) => if (k == NameKind.free && env.scope.kind == .function && env.kindOf n == some .cell) then (n, NameKind.cell) else (n, k)).lookup n = some .cell ∨
 (names.map fun (n, k) => if (k == NameKind.free && env.scope.kind == .function && env.kindOf n == some .cell) then (n, NameKind.cell) else (n, k)).lookup n = some .free
 | [], _, h => by simp at h
 | (m, k) :: r, n, h => by
  have ih := @cg env r n
  rw [List.lookup_cons] at h
  rw [List.map_cons]
  cases hm : n == m with
  | true =>
   rw [hm] at h
   have e2 : k = .free := Option.some.inj h
   subst e2
   by_cases hc : (NameKind.free == NameKind.free && env.scope.kind == .function && env.kindOf m == some .cell) = true
   · dsimp only
     rw [if_pos hc, List.lookup_cons, hm]
     exact .inl rfl
   · dsimp only
     rw [if_neg hc, List.lookup_cons, hm]
     exact .inr rfl
  | false =>
   rw [hm] at h
   dsimp only
   by_cases hc : (k == NameKind.free && env.scope.kind == .function && env.kindOf m == some .cell) = true
   · rw [if_pos hc, List.lookup_cons, hm]; exact ih h
   · rw [if_neg hc, List.lookup_cons, hm]; exact ih h
def nV (cs : List (Str × Nat)) (ρ : Ev) : Ev := none :: cs.map fun c => (ρ[c.2]?).join
section
variable {X : Cx} {pins : List (Addr × Obj)} {σ : L2.St} {H : Hp} {s : Shared}
end
def lm (tst : Option FnB) (elt : FnE) (cap : Ev) : List Dv → Option (List Dv)
 | [] => some []
 | d :: ds =>
  let ρ := cap.set 0 (some d)
  match (match tst with | none => (some (.ok true) : Option (Rs Bool)) | some t => t ρ) with
  | some (.ok true) => (match elt ρ with
   | some (.ok y) => (match lm tst elt cap ds with | some ys => some (y :: ys) | none => none)
   | _ => none)
  | some (.ok false) => lm tst elt cap ds
  | _ => none
def b8 (cs : List (Str × Nat)) (src : FnA) (tst : Option FnB) (elt : FnE) : FnE := fun ρ => bnd (src ρ) fun ds => match lm tst elt (nV cs ρ) ds with
 | some ys => if ys.length ≤ 100000 ∧ ds.length ≤ 100000 then some (.ok (.lst ys)) else none
 | none => none
def LAt (h : Heap) (D : Addr) (its : List Value) : Prop := ∃ n, h.get? D = some { cls := .type "list", data := .seq its.toArray n }
theorem fm {P : Program} {w : World} {A : Around} {E : Value → Shared → Prop} {s : Shared} {D : Addr} {its : List Value} {u : Value} {Q : Value → Shared → Prop} (h : LAt s.heap D its) (hz : its.length ≤ 100000)
 (hQ : ∀ h', LAt h' D (its ++ [u]) → (∀ b o, b ≠ D → s.heap.get? b = some o → h'.get? b = some o) → Q .none { s with heap := h' }) : wpAny (model P w) A (call (.builtin "list.append") [.ref D, u]) Q E s := by
 obtain ⟨n, e⟩ := h
 refine call_meets F.slot_list_append ⟨_, e, rfl⟩ F.entry_list_append (F.args_list_append_2 _ _) (PySem.list_append D its.toArray n u (by rw [List.size_toArray]; exact aI hz)) ⟨e, ?_⟩
 have q := PySem.IsL.update e (·.push u)
 have e2 : its.toArray.push u = (its ++ [u]).toArray := by simp
 rw [e2] at q
 exact hQ _ ⟨_, q⟩ fun b o hb ho => (Heap.get?_update_other s.heap _ (Ne.symm hb)).trans ho
def ju (X : Cx) (ifs : List Expr) (tst : Option FnB) : Prop := match tst with
 | none => ifs = []
 | some t => ∃ c, ifs = [c] ∧ FT X c t
theorem HOk.add {P : Program} {w : World} {H : Hp} {h h' : Heap} {D C : Addr} {o : HO} (x : HOk P w H h) (hD : H D = none) (hC : H C = none) (k : ∀ b u, b ≠ C → h.get? b = some u → h'.get? b = some u) (new : ObjOk P w (upd H D o) h' D o) : HOk P w (upd H D o) h' := fun b u e => by
 by_cases hb : b = D
 · subst hb; rw [am] at e; cases e; exact new
 · rw [ak hb] at e
   refine (x b u e).stay (fun c v hc q => k c v ?_ q) (fun c q => by rw [ak (aj q hD)]; exact q) fun c xs q => by rw [ak (aj q hD)]; exact q
   rcases hc with rfl | hc
   · exact aj e hC
   · exact aj hc hC
theorem km {b D : Nat} (h : b < D) : b ≠ D := by omega
theorem ln {b D : Nat} (h : b < D) : b ≠ D + 1 := by omega
theorem uG {D : Nat} : D ≠ D + 1 := by omega
section
variable {X : Cx}
def cJ : Dv → Dv → Option (Rs Dv)
 | .int i, .int j => some (.ok (.int (i + j)))
 | .str x, .str y => if x.length + y.length ≤ 100000 then some (.ok (.str (x ++ y))) else none
 | .lst a, .lst b => if a.length + b.length ≤ 100000 then some (.ok (.lst (a ++ b))) else none
 | _, _ => none
def qT : R2 := fun x y H Q => rI0 (fun i j => .int (i + j)) x y H Q ∨ ((∃ i j, x = .str i ∧ y = .str j ∧ i.length + j.length ≤ sizeLine ∧ Q (.str (i ++ j)) H) ∨ zi x y H Q)
theorem o_add : OpR X (binaryOp .Add) qT := op_add.or (op_add_str.or um)
theorem uH : GOp X qT cJ := by
 intro dx dy x y H Q rx ry o
 cases dx <;> cases dy <;> try exact (show False from o).elim
 · rename_i i j
   exact .inl ⟨i, j, rx, ry, o _ H (.refl H) rfl⟩
 · rename_i i j
   simp only [cJ] at o
   split at o
   · rename_i hl
     exact .inr (.inl ⟨i, j, rx, ry, aI hl, o _ H (.refl H) rfl⟩)
   · exact o.elim
 · rename_i a b
   simp only [cJ] at o
   split at o
   · rename_i hl
     obtain ⟨p, xs, rfl, h1, q1⟩ := rx.lstE
     obtain ⟨p2, xs2, rfl, h2, q2⟩ := ry.lstE
     refine .inr (.inr ⟨p, p2, xs, xs2, rfl, rfl, h1, h2, by rw [q1.length, q2.length]; exact aI hl, fun l hl => o _ _ (ao hl _) ⟨l, _, rfl, am, Reps.mono (ao hl _) _ _ (q1.append q2)⟩⟩)
   · exact o.elim
def dh : Dv → Dv → Option (Rs Dv)
 | .int i, .int j => if (-18446744073709551616 < i ∧ i < 18446744073709551616) ∨ (-18446744073709551616 < j ∧ j < 18446744073709551616) then some (.ok (.int (i * j))) else none
 | _, _ => none
theorem uI : GOp X (rI CMul fun i j => .int (i * j)) dh := by
 intro dx dy x y H Q rx ry o
 cases dx <;> cases dy <;> try exact (show False from o).elim
 rename_i i j
 simp only [dh] at o
 split at o
 · rename_i h
   exact ⟨i, j, rx, ry, h, o _ H (.refl H) rfl⟩
 · exact o.elim
def cK : Dv → Dv → Option (Rs Dv)
 | .int i, .int j => if 0 < j then some (.ok (.int (i % j))) else none
 | _, _ => none
theorem ya : GOp X (rI (fun _ j => 0 < j) fun i j => .int (i % j)) cK := by
 intro dx dy x y H Q rx ry o
 cases dx <;> cases dy <;> try exact (show False from o).elim
 rename_i i j
 simp only [cK] at o
 split at o
 · rename_i h
   exact ⟨i, j, rx, ry, h, o _ H (.refl H) rfl⟩
 · exact o.elim
def cX : Dv → Dv → Option (Rs Dv)
 | .int i, .int j => if 0 < j ∧ j < 1073741824 then some (.ok (.int (i / j))) else none
 | _, _ => none
theorem uJ : GOp X (rI zd fun i j => .int (i / j)) cX := by
 intro dx dy x y H Q rx ry o
 cases dx <;> cases dy <;> try exact (show False from o).elim
 rename_i i j
 simp only [cX] at o
 split at o
 · rename_i h
   exact ⟨i, j, rx, ry, h, o _ H (.refl H) rfl⟩
 · exact o.elim
def yc : Dv → Option (Rs Dv)
 | .int i => some (.ok (.int (-i)))
 | _ => none
def f1 (g : Dv → Option (Rs Dv)) (fa : FnE) : FnE := fun ρ => bnd (fa ρ) g
theorem uK {a : Expr} {fa : FnE} {pos : Pos} (ha : FE X a fa) : FE X (.UnaryOp .USub a pos) (f1 yc fa) :=
 bj (xP ua ha.h) fun σ H Q ρ E o => ⟨ρ, E, Out.bind o fun d v H1 e r o1 => by
  cases d <;> try exact (show False from o1).elim
  rename_i i
  exact ⟨i, r, o1 _ H1 (.refl H1) rfl⟩⟩
def seq (x y : Str) : Bool := x.cps.toList == y.cps.toList
theorem pN (x y : Str) : (x == y) = seq x y := by
 rw [Bool.eq_iff_iff]
 unfold seq
 obtain ⟨⟨a⟩⟩ := x
 obtain ⟨⟨b⟩⟩ := y
 simp
def eqS : Dv → Dv → Option Bool
 | .non, .non => some true
 | .non, .int _ => some false
 | .int _, .non => some false
 | .non, .bl _ => some false
 | .bl _, .non => some false
 | .non, .str _ => some false
 | .str _, .non => some false
 | .int i, .int j => some (i == j)
 | .bl i, .bl j => some (i == j)
 | .str i, .str j => some (seq i j)
 | .int _, .str _ => some false
 | .str _, .int _ => some false
 | .bl _, .str _ => some false
 | .str _, .bl _ => some false
 | _, _ => none
theorem pO {K : PySem.W.Frag} {H : Hp} {dx dy : Dv} {x y : V} {b : Bool} (rx : Rep K H dx x) (ry : Rep K H dy y) (h : eqS dx dy = some b) : xR x y = true ∧ decide (x = y) = b := by
 cases dx <;> cases dy <;> (try cases h) <;> (try (cases rx; cases ry; exact ⟨rfl, by first | rfl | exact iw | exact kT | (rw [iy, pN]) | simp⟩))
def zl (p : Int → Int → Bool) : Dv → Dv → Option (Rs Dv)
 | .int i, .int j => some (.ok (.bl (p i j)))
 | _, _ => none
theorem uL (p : Int → Int → Bool) : GOp X (rI0 fun i j => .bl (p i j)) (zl p) := by
 intro dx dy x y H Q rx ry o
 cases dx <;> cases dy <;> try exact (show False from o).elim
 rename_i i j
 exact ⟨i, j, rx, ry, o _ H (.refl H) rfl⟩
abbrev gtD := zl fun i j => decide (j < i)
def pP : Dv → Dv → Option (Rs Dv)
 | x, .non => some (.ok (.bl (match x with | .non => false | _ => true)))
 | _, _ => none
theorem qU {K : PySem.W.Frag} {H : Hp} {d : Dv} {v : V} (r : Rep K H d v) : decide (v = .non) = (match d with | .non => true | _ => false) := by
 cases d with
 | non => cases (show v = .non from r); rfl
 | bl b => cases (show v = .bl b from r); rfl
 | int b => cases (show v = .int b from r); rfl
 | str b => cases (show v = .str b from r); rfl
 | tup ds => obtain ⟨a, xs, rfl, _⟩ := r.tupE; rfl
 | lst ds => obtain ⟨a, xs, rfl, _⟩ := r.lstE; rfl
 | scr ds => obtain ⟨a, rfl, _⟩ := r.scrE; rfl
 | exn c =>
  obtain ⟨a, _, _, _, rfl, _⟩ := r.exnE
  rfl
theorem uM : GOp X (fun x y H Q => y = .non ∧ Q (.bl (!decide (x = .non))) H) pP := by
 intro dx dy x y H Q rx ry o
 cases dy <;> try exact (show False from o).elim
 have q := qU rx
 refine ⟨ry, ?_⟩
 have q2 := o _ H (.refl H) rfl
 cases dx <;> (rw [q]; exact q2)
def inS (x y : Str) : Bool := !(Builtin.Str.occurrences y x 0 y.length 1).isEmpty
def cG : Dv → Bool
 | .non => true
 | .bl _ => true
 | .int _ => true
 | .str _ => true
 | _ => false
def eqF : Dv → Dv → Bool
 | .non, .non => true
 | .bl a, .bl b => a == b
 | .bl a, .int b => (if a then 1 else 0) == b
 | .int a, .bl b => a == (if b then 1 else 0)
 | .int a, .int b => a == b
 | .str a, .str b => seq a b
 | _, _ => false
def inL (x : Dv) (ys : List Dv) : Option Bool := if cG x && ys.all cG then some (ys.any fun y => eqF y x) else none
def sU : Dv → Dv → Option Bool
 | .str x, .str y => some (inS x y)
 | x, .lst ys => inL x ys
 | x, .tup ys => inL x ys
 | _, _ => none
def inD (x y : Dv) : Option (Rs Dv) := match sU x y with
 | some b => some (.ok (.bl b))
 | none => none
def bE (x y : Dv) : Option (Rs Dv) := match sU x y with
 | some b => some (.ok (.bl (!b)))
 | none => none
theorem fR {K : PySem.W.Frag} {H : Hp} {d : Dv} {v : V} (r : Rep K H d v) (h : cG d = true) : b6 v = true := by
 cases d <;> first | (cases h; done) | (cases r; rfl)
theorem dL {K : PySem.W.Frag} {H : Hp} : ∀ {ds : List Dv} {vs : List V}, Reps K H ds vs → ds.all cG = true → vs.all b6 = true
 | [], vs, r, _ => by cases (show vs = [] from r); rfl
 | d :: ds, vs, r, h => by
  obtain ⟨v, us, rfl, r1, r2⟩ : ∃ v us, vs = v :: us ∧ Rep K H d v ∧ Reps K H ds us := r
  rw [List.all_cons, Bool.and_eq_true] at h
  rw [List.all_cons, Bool.and_eq_true]
  exact ⟨fR r1 h.1, dL r2 h.2⟩
theorem lq {K : PySem.W.Frag} {H : Hp} {d e : Dv} {v u : V} (r : Rep K H d v) (q : Rep K H e u) (h : cG d = true) (h' : cG e = true) : eqV v u = eqF d e := by
 cases d <;> first | (cases h; done) | (cases r; cases e <;> first | (cases h'; done) | (cases q; first | rfl | exact pN _ _))
theorem pQ {K : PySem.W.Frag} {H : Hp} {e : Dv} {u : V} (q : Rep K H e u) (h' : cG e = true) : ∀ {ds : List Dv} {vs : List V}, Reps K H ds vs → ds.all cG = true → (vs.any fun y => eqV y u) = ds.any fun y => eqF y e
 | [], vs, r, _ => by cases (show vs = [] from r); rfl
 | d :: ds, vs, r, h => by
  obtain ⟨v, us, rfl, r1, r2⟩ : ∃ v us, vs = v :: us ∧ Rep K H d v ∧ Reps K H ds us := r
  rw [List.all_cons, Bool.and_eq_true] at h
  rw [List.any_cons, List.any_cons, lq r1 q h.1 h', pQ q h' r2 h.2]
theorem jv {K : PySem.W.Frag} {H : Hp} {dx : Dv} {ys : List Dv} {x : V} {vs : List V} {b : Bool} (rx : Rep K H dx x) (ry : Reps K H ys vs) (h : inL dx ys = some b) : b6 x = true ∧ vs.all b6 = true ∧ inV x vs = b := by
 unfold inL at h
 split at h
 · rename_i hc
   rw [Bool.and_eq_true] at hc
   cases h
   exact ⟨fR rx hc.1, dL ry hc.2, pQ rx hc.1 ry hc.2⟩
 · cases h
def yd (K : PySem.W.Frag) : R2 := fun x y H Q => (∃ i j, x = .str i ∧ y = .str j ∧ Q (.bl (!(Builtin.Str.occurrences j i 0 j.length 1).isEmpty)) H) ∨ rIn K false x y H Q
def lr (K : PySem.W.Frag) : R2 := fun x y H Q => (∃ i j, x = .str i ∧ y = .str j ∧ Q (.bl (!(!(Builtin.Str.occurrences j i 0 j.length 1).isEmpty))) H) ∨ rIn K true x y H Q
theorem o_in : OpR X (compareOp .In) (yd X.K) := op_in_str.or lb
theorem ls : OpR X (compareOp .NotIn) (lr X.K) := op_notIn_str.or gI
theorem ye : GOp X (yd X.K) inD := by
 intro dx dy x y H Q rx ry o
 unfold inD at o
 split at o
 · rename_i b hb
   have q := o _ H (.refl H) rfl
   cases dy <;> try (cases dx <;> cases hb; done)
   · rename_i z
     cases dx <;> try (cases hb; done)
     rename_i z'
     cases hb
     exact .inl ⟨z', z, rx, ry, q⟩
   · rename_i ys
     have hb' : inL dx ys = some b := by cases dx <;> exact hb
     obtain ⟨a, vs, rfl, h1, h2⟩ := ry.tupE
     obtain ⟨f1, f2, f3⟩ := jv rx h2 hb'
     exact .inr ⟨a, vs, rfl, .inr (SqT.of h1), f1, f2, by rw [if_neg Bool.false_ne_true, f3]; exact q⟩
   · rename_i ys
     have hb' : inL dx ys = some b := by cases dx <;> exact hb
     obtain ⟨a, vs, rfl, h1, h2⟩ := ry.lstE
     obtain ⟨f1, f2, f3⟩ := jv rx h2 hb'
     exact .inr ⟨a, vs, rfl, .inl (SqL.of h1), f1, f2, by rw [if_neg Bool.false_ne_true, f3]; exact q⟩
 · exact o.elim
theorem lu : GOp X (lr X.K) bE := by
 intro dx dy x y H Q rx ry o
 unfold bE at o
 split at o
 · rename_i b hb
   have q := o _ H (.refl H) rfl
   cases dy <;> try (cases dx <;> cases hb; done)
   · rename_i z
     cases dx <;> try (cases hb; done)
     rename_i z'
     cases hb
     exact .inl ⟨z', z, rx, ry, q⟩
   · rename_i ys
     have hb' : inL dx ys = some b := by cases dx <;> exact hb
     obtain ⟨a, vs, rfl, h1, h2⟩ := ry.tupE
     obtain ⟨f1, f2, f3⟩ := jv rx h2 hb'
     exact .inr ⟨a, vs, rfl, .inr (SqT.of h1), f1, f2, by rw [if_pos rfl, f3]; exact q⟩
   · rename_i ys
     have hb' : inL dx ys = some b := by cases dx <;> exact hb
     obtain ⟨a, vs, rfl, h1, h2⟩ := ry.lstE
     obtain ⟨f1, f2, f3⟩ := jv rx h2 hb'
     exact .inr ⟨a, vs, rfl, .inl (SqL.of h1), f1, f2, by rw [if_pos rfl, f3]; exact q⟩
 · exact o.elim
def atD {α : Type} (xs : List α) (i : Int) : Option α := if 0 ≤ i then xs[i.toNat]? else if -(xs.length : Int) ≤ i then xs[(i + xs.length).toNat]? else none
theorem fT {α : Type} {xs : List α} {i : Int} {v : α} (h : atD xs i = some v) : atI xs i = some v := by
 unfold atD at h
 unfold atI ixN
 split at h
 · rename_i h0
   have hl : i.toNat < xs.length := by
    obtain ⟨q, _⟩ := List.getElem?_eq_some_iff.mp h
    exact q
   rw [if_pos h0, if_pos (by omega)]
   exact h
 · rename_i h0
   split at h
   · rename_i h1
     rw [if_neg h0, if_pos h1]
     exact h
   · cases h
def ixD : Dv → Dv → Option (Rs Dv)
 | .lst xs, .int i => (match atD xs i with | some d => some (.ok d) | none => none)
 | .tup xs, .int i => (match atD xs i with | some d => some (.ok d) | none => none)
 | .str z, .int i => if z.length ≤ 100000 then (match atD z.cps.toList i with | some c => some (.ok (.str ⟨#[c]⟩)) | none => none) else none
 | .scr ns, .int i => (match atD ns i with | some d => some (.ok (.int d)) | none => none)
 | _, _ => none
theorem iC {α β : Type} {xs : List α} {ys : List β} (h : ys.length = xs.length) {i : Int} {x : α} (e : atD xs i = some x) : ∃ j : Nat, xs[j]? = some x ∧ ∀ y, ys[j]? = some y → atD ys i = some y := by
 unfold atD at e
 split at e
 · rename_i h0
   exact ⟨_, e, fun y q => by unfold atD; rw [if_pos h0]; exact q⟩
 · rename_i h0
   split at e
   · rename_i h1
     exact ⟨_, e, fun y q => by unfold atD; rw [if_neg h0, h, if_pos h1]; exact q⟩
   · cases e
theorem zW : GOp X (rIx X.K) ixD := by
 intro dx dy x y H Q rx ry o
 cases dx <;> cases dy <;> try exact (show False from o).elim
 · rename_i z i
   simp only [ixD] at o
   split at o
   · rename_i hl
     split at o
     · rename_i c hc
       exact .inr (.inr ⟨z, i, c, rx, ry, aI hl, fT hc, o _ H (.refl H) rfl⟩)
     · exact o.elim
   · exact o.elim
 · rename_i ds i
   simp only [ixD] at o
   split at o
   · rename_i d hd
     obtain ⟨a, xs, rfl, h1, h2⟩ := rx.tupE
     obtain ⟨j, e1, e2⟩ := iC h2.length hd
     obtain ⟨v, e3, r3⟩ := h2.get' e1
     exact .inr (.inl ⟨a, xs, i, v, rfl, ry, SqT.of h1, fT (e2 v e3), o v H (.refl H) r3⟩)
   · exact o.elim
 · rename_i ds i
   simp only [ixD] at o
   split at o
   · rename_i d hd
     obtain ⟨a, xs, rfl, h1, h2⟩ := rx.lstE
     obtain ⟨j, e1, e2⟩ := iC h2.length hd
     obtain ⟨v, e3, r3⟩ := h2.get' e1
     exact .inl ⟨a, xs, i, v, rfl, ry, SqL.of h1, fT (e2 v e3), o v H (.refl H) r3⟩
   · exact o.elim
 · rename_i ns i
   simp only [ixD] at o
   split at o
   · rename_i d hd
     obtain ⟨a, rfl, h1⟩ := rx.scrE
     obtain ⟨j, e1, e2⟩ := iC (ys := ns.map V.int) (by simp) hd
     exact .inl ⟨a, _, i, .int d, rfl, ry, h1, fT (e2 _ (by rw [List.getElem?_map, e1] <;> rfl)), o _ H (.refl H) rfl⟩
   · exact o.elim
theorem gM {a b : Expr} {fa fb : FnE} {pos : Pos} (ha : FE X a fa) (hb : FE X b fb) (hs : k9 b := by intro _ _; kernel_rfl) : FE X (.Subscript a b pos) (f2 ixD fa fb) :=
 bj (xV uj ha.h hb.h hs) fun _ _ _ _ E o => two zW E o
abbrev FnO := Ev → Option (Rs (Option Int))
def OutO (X : Cx) (H : Hp) (o : Option (Rs (Option Int))) (Q : Option Int → Hp → Prop) : Prop := match o with
 | none => False
 | some (.exc c) => XW X c H
 | some (.ok d) => ∀ H', Same H H' → Q d H'
theorem OutO.mono {H H' : Hp} {Q : Option Int → Hp → Prop} (e : Same H H') : ∀ {o : Option (Rs (Option Int))}, OutO X H o Q → OutO X H' o Q
 | none, h => h
 | some (.exc _), h => XW.mono h e
 | some (.ok _), h => fun H1 e1 => h H1 (e.trans e1)
structure FO (X : Cx) (e : Option Expr) (f : FnO) : Prop where
 h : PO X e fun σ H Q => ∃ ρ, Envs X.K H σ ρ ∧ OutO X H (f ρ) Q
def aO : FnO := fun _ => some (.ok none)
def toI : Dv → Option (Rs (Option Int))
 | .int i => some (.ok (some i))
 | _ => none
def aL (f : FnE) : FnO := fun ρ => bnd (f ρ) toI
theorem lv : FO X none aO := ⟨fun pins s σ H Q I ⟨_, _, o⟩ => qL pins s σ H Q I (o H (.refl H))⟩
theorem lw {e : Expr} {fa : FnE} (h : FE X e fa) : FO X (some e) (aL fa) := ⟨fun pins s σ H Q I ⟨ρ, E, o⟩ => qM h.h pins s σ H Q I ⟨ρ, E, by
 unfold aL at o
 match hf : fa ρ, o with
 | none, o => exact o
 | some (.exc c), o => exact o
 | some (.ok d), o =>
  intro v H' e r
  cases d <;> try exact (show False from o).elim
  rename_i i
  exact ⟨i, r, o H' e⟩⟩⟩
def lx {α : Type} (xs : List α) (lo hi : Option Int) : List α := (xs.drop (HT.sIx xs.length 0 lo)).take (HT.sIx xs.length xs.length hi - HT.sIx xs.length 0 lo)
def zX : V → Option Int → Option Int → Hp → VK → Prop := fun x lo hi H Q => ∃ z, x = .str z ∧ z.length ≤ sizeLine ∧ Q (.str (Txt.slice z lo hi)) H
theorem sl_str : SlR X zX := by
 intro pins s σ H x v vl vu lo hi sl Q I rx hs pl pu q
 obtain ⟨z, rfl, hz, q⟩ := q
 obtain ⟨t, rfl⟩ := rx
 refine ⟨"str", _, F.slot_str_getitem.lookup, typeIs_str _ _ _, ?_⟩
 have fin : ∀ (t' : Tok) (k : Nat), EP X pins σ Q (.str (Txt.slice z lo hi) t') { s with toks := k } := fun t' k => ⟨.str (Txt.slice z lo hi), H, I.tok _, ⟨_, rfl⟩, q⟩
 cases pl with
 | none =>
  cases pu with
  | none => exact wpAny_getItem_str_slice (l := none) (u := none) (st := none) hs rfl (post_val_or_str ⟨Nat.le_trans (Txt.slice_le z _ _) hz, fun t' k => fin t' k⟩)
  | int j u => exact wpAny_getItem_str_slice (l := none) (u := some (j, u)) (st := none) hs rfl (post_val_or_str ⟨Nat.le_trans (Txt.slice_le z _ _) hz, fun t' k => fin t' k⟩)
 | int i u' =>
  cases pu with
  | none => exact wpAny_getItem_str_slice (l := some (i, u')) (u := none) (st := none) hs rfl (post_val_or_str ⟨Nat.le_trans (Txt.slice_le z _ _) hz, fun t' k => fin t' k⟩)
  | int j u => exact wpAny_getItem_str_slice (l := some (i, u')) (u := some (j, u)) (st := none) hs rfl (post_val_or_str ⟨Nat.le_trans (Txt.slice_le z _ _) hz, fun t' k => fin t' k⟩)
def xf (x : Dv) (lo hi : Option Int) : Option (Rs Dv) := match x with
 | .str z => if z.length ≤ 100000 then some (.ok (.str (Txt.slice z lo hi))) else none
 | .lst xs => some (.ok (.lst (lx xs lo hi)))
 | _ => none
def nr (fa : FnE) (fl fh : FnO) : FnE := fun ρ => bnd (fa ρ) fun x => bnd (fl ρ) fun lo => bnd (fh ρ) fun hi => xf x lo hi
theorem cY {H : Hp} {Q : VK} {o : Option (Rs (Option Int))} {k : Option Int → Option (Rs Dv)} {P : Option Int → Hp → Prop} (h : Out X H (bnd o k) Q) (hp : ∀ b H', Same H H' → Out X H' (k b) Q → P b H') : OutO X H o P := by
 match o, h with
 | some (.exc _), h => exact h
 | some (.ok d), h => exact fun H1 e => hp d H1 e (Out.mono e h)
theorem uN {a : Expr} {lo hi : Option Expr} {fa : FnE} {fl fh : FnO} {p2 pos : Pos} (ha : FE X a fa) (hl : FO X lo fl) (hh : FO X hi fh) : FE X (.Subscript a (.Slice lo hi none p2) pos) (nr fa fl fh) :=
 bj (jp (sl_str.or la) ha.h hl.h hh.h) fun σ H Q ρ E o => ⟨ρ, E, Out.bind o fun d v H1 e1 r1 o1 => ⟨ρ, E.mono e1, cY o1 fun l H2 e2 o2 => ⟨ρ, (E.mono e1).mono e2, cY o2 fun u H3 e3 o3 => by
  have r3 := Rep.mono e3 d v (Rep.mono e2 d v r1)
  cases d <;> try exact (show False from o3).elim
  · rename_i z
    unfold xf at o3
    dsimp only at o3
    split at o3
    · rename_i hz
      exact .inl ⟨z, r3, aI hz, o3 _ H3 (.refl H3) rfl⟩
    · exact o3.elim
  · rename_i ds
    obtain ⟨a', xs, rfl, h1, h2⟩ := r3.lstE
    refine .inr ⟨a', xs, rfl, SqL.of h1, fun p hp => o3 _ _ (ao hp _) ⟨p, _, rfl, am, Reps.mono (ao hp _) _ _ ?_⟩⟩
    unfold nK lx
    rw [h2.length]
    exact (h2.drop _).take _⟩⟩⟩
def b9 : List Dv → Option (Rs Dv)
 | [.str z] => if z.length ≤ 100000 then some (.ok (.int z.length)) else none
 | [.lst xs] => some (.ok (.int xs.length))
 | [.tup xs] => some (.ok (.int xs.length))
 | [.scr ns] => some (.ok (.int ns.length))
 | _ => none
def fB1 (g : List Dv → Option (Rs Dv)) (ga : FnA) : FnE := fun ρ => bnd (ga ρ) g
variable {x : Str} {p pos : Pos} {e : Expr} {es : List Expr} {ga : FnA}
theorem cL {K : PySem.W.Frag} {H : Hp} {d : Dv} {vs : List V} (r : Reps K H [d] vs) : ∃ v, vs = [v] ∧ Rep K H d v := by
 obtain ⟨v, us, rfl, r1, r2⟩ : ∃ v us, vs = v :: us ∧ Rep K H d v ∧ Reps K H [] us := r
 cases (show us = [] from r2)
 exact ⟨v, rfl, r1⟩
theorem yf {K : PySem.W.Frag} {H : Hp} {d d2 : Dv} {vs : List V} (r : Reps K H [d, d2] vs) : ∃ v v2, vs = [v, v2] ∧ Rep K H d v ∧ Rep K H d2 v2 := by
 obtain ⟨v, us, rfl, r1, r2⟩ : ∃ v us, vs = v :: us ∧ Rep K H d v ∧ Reps K H [d2] us := r
 obtain ⟨v2, rfl, r3⟩ := cL r2
 exact ⟨v, v2, rfl, r1, r3⟩
theorem jw (hg : Gl X "len") (hm : X.mg "len" = none) (ha : FA X (e :: es) ga) (he : starEach (e :: es) X.env = (false, eval e X.env) :: starEach es X.env := by kernel_rfl) (hpl : (backTo pos (starEach es X.env)).any (·.1) = false := by kernel_rfl) : FE X (.Call (.Name "len" p) (e :: es) [] pos) (fB1 b9 ga) :=
 bj (cR nI hg hm PySem.boot_len ha.h (by decide) (by decide) he hpl) fun σ H Q ρ E o => ⟨ρ, E, OutA.bind o fun ds vs H1 e1 rs o1 => by
  unfold b9 at o1
  split at o1
  · rename_i z
    split at o1
    · rename_i hz
      obtain ⟨v, rfl, r⟩ := cL rs
      cases (show v = .str z from r)
      exact ⟨_, _, rfl, ⟨aI hz, rfl⟩, o1 _ H1 (.refl H1) rfl⟩
    · exact o1.elim
  · rename_i xs
    obtain ⟨v, rfl, r⟩ := cL rs
    obtain ⟨a, ws, rfl, h1, h2⟩ := r.lstE
    exact ⟨_, _, rfl, .inl ⟨ws, SqL.of h1, rfl⟩, o1 _ H1 (.refl H1) (by rw [h2.length]; rfl)⟩
  · rename_i xs
    obtain ⟨v, rfl, r⟩ := cL rs
    obtain ⟨a, ws, rfl, h1, h2⟩ := r.tupE
    exact ⟨_, _, rfl, .inr ⟨ws, SqT.of h1, rfl⟩, o1 _ H1 (.refl H1) (by rw [h2.length]; rfl)⟩
  · rename_i ns
    obtain ⟨v, rfl, r⟩ := cL rs
    obtain ⟨a, rfl, h1⟩ := r.scrE
    exact ⟨_, _, rfl, .inl ⟨_, h1, rfl⟩, o1 _ H1 (.refl H1) (by rw [List.length_map]; rfl)⟩
  · exact o1.elim⟩
def fU : List Dv → Option (List Bool)
 | [] => some []
 | .bl b :: r => (match fU r with | some bs => some (b :: bs) | none => none)
 | _ => none
def nW : List Dv → Option (Rs Dv)
 | [.lst xs] => (match fU xs with | some bs => some (.ok (.bl (bs.all id))) | none => none)
 | _ => none
theorem jx {K : PySem.W.Frag} {H : Hp} : ∀ {ds : List Dv} {vs : List V} {us : List Value} {bs : List Bool}, Reps K H ds vs → Vals vs us → fU ds = some bs → us = bs.map Value.bool
 | [], vs, us, bs, r, q, h => by
  cases (show vs = [] from r)
  cases q
  cases h
  rfl
 | d :: ds, vs, us, bs, r, q, h => by
  obtain ⟨v, ws, rfl, r1, r2⟩ : ∃ v us, vs = v :: us ∧ Rep K H d v ∧ Reps K H ds us := r
  cases q with
  | cons q1 q2 =>
   cases d <;> try (cases h; done)
   rename_i b
   simp only [fU] at h
   cases hb : fU ds with
   | none => rw [hb] at h; cases h
   | some bs' =>
    rw [hb] at h
    cases h
    cases (show v = .bl b from r1)
    cases q1
    rw [jx r2 q2 hb]
    rfl
theorem nX : CallR X (.builtin "all") (fun xs H Q => ∃ a vs bs ds, xs = [.ref a] ∧ H a = some (.lst vs) ∧ Reps X.K H ds vs ∧ fU ds = some bs ∧ X.calm = true ∧ Q (.bl (bs.all id)) H) := by
 intro pins s σ H xs us Q I r h
 obtain ⟨a, vs, bs, ds, rfl, h1, h2, h3, hc, q⟩ := h
 obtain ⟨u, rfl, ru⟩ := eg r
 cases ru
 obtain ⟨z, its, n, rv, hl, e⟩ := I.lstM h1
 have eb := jx h2 rv h3
 subst eb
 have hL : s.heap.IsList a (bs.map Value.bool).toArray := ⟨_, e, rfl, _, rfl⟩
 have hlt : a < s.heap.objs.size := Heap.lt_size e
 refine call_all_walk (wpAny_pyIter_list hL ?_)
 refine ⟨s.heap.objs.size, [s.heap.objs.size, a], [s.heap.objs.size], (bs.map Value.bool).toArray.size, _, _, fun i => (bs[i]?).getD true, rfl, Walks.list (A := X.A.in1) (I.ok.hd hc) _ a (Nat.ne_of_lt hlt) (bs.map Value.bool).toArray,
  ⟨⟨_, Heap.get?_push_size _ rfl, rfl, rfl⟩, hL.push _⟩, fun i v s' Q' E' hP hQ => ?_, fun h' tk hk => ?_⟩
 · have hP' : (bs.map Value.bool)[i]? = some v := by simpa using hP
   rw [List.getElem?_map] at hP'
   cases hb : bs[i]? with
   | none => rw [hb] at hP'; cases hP'
   | some b =>
    rw [hb] at hP'
    cases hP'
    have hQ2 : Q' ((bs[i]?).getD true) s' := hQ
    rw [hb] at hQ2
    exact wpAny_truthy_bool hQ2
 · have e2 : ((List.range (bs.map Value.bool).toArray.size).all fun i => (bs[i]?).getD true) = bs.all id := by
    rw [List.size_toArray, List.length_map]
    rw [Bool.eq_iff_iff]
    simp only [List.all_eq_true, List.mem_range, id]
    constructor
    · intro hh b hb
      obtain ⟨i, hi, rfl⟩ := List.mem_iff_getElem.mp hb
      simpa [hi] using hh i hi
    · intro hh i hi
      simp only [List.getElem?_eq_getElem hi, Option.getD_some]
      exact hh _ (List.getElem_mem hi)
   rw [e2]
   refine ⟨.bl _, H, I.kept fun b x eb => hk b x (fun hm => ?_) (Heap.get?_push_of_some _ eb), rfl, q⟩
   rw [List.mem_singleton.mp hm] at eb
   exact Nat.lt_irrefl _ (Heap.lt_size eb)
theorem uO (hc : X.calm = true) (hg : Gl X "all") (hm : X.mg "all" = none) (ha : FA X (e :: es) ga) (he : starEach (e :: es) X.env = (false, eval e X.env) :: starEach es X.env := by kernel_rfl) (hpl : (backTo pos (starEach es X.env)).any (·.1) = false := by kernel_rfl) : FE X (.Call (.Name "all" p) (e :: es) [] pos) (fB1 nW ga) :=
 bj (cR nX hg hm PyProof.Rows.boot_all ha.h (by decide) (by decide) he hpl) fun σ H Q ρ E o => ⟨ρ, E, OutA.bind o fun ds vs H1 e1 rs o1 => by
  unfold nW at o1
  split at o1
  · rename_i xs
    split at o1
    · rename_i bs hb
      obtain ⟨v, rfl, r⟩ := cL rs
      obtain ⟨a, ws, rfl, h1, h2⟩ := r.lstE
      exact ⟨a, ws, bs, xs, rfl, h1, h2, hb, hc, o1 _ H1 (.refl H1) rfl⟩
    · exact o1.elim
  · exact o1.elim⟩
def tyD : Dv → String
 | .non => "NoneType"
 | .bl _ => "bool"
 | .int _ => "int"
 | .str _ => "str"
 | .tup _ => "tuple"
 | .lst _ => "list"
 | .scr _ => "list"
 | .exn _ => "object"
end
section
variable {X : Cx} {p pos apos cpos pT : Pos} {e a o : Expr} {es : List Expr} {ga : FnA} {fa fo : FnE}
theorem qV {K : PySem.W.Frag} {H : Hp} {d : Dv} {v : V} (r : Rep K H d v) (hs : ∀ ns, d ≠ .scr ns) (hx : ∀ c, d ≠ .exn c) : jm K H v (.type (tyD d)) := by
 cases d with
 | non => cases (show v = .non from r); exact .non
 | bl b => cases (show v = .bl b from r); exact .bl b
 | int b => cases (show v = .int b from r); exact .int b
 | str b => cases (show v = .str b from r); exact .str b
 | tup ds => obtain ⟨a, xs, rfl, h, _⟩ := r.tupE; exact .tup h
 | lst ds => obtain ⟨a, xs, rfl, h, _⟩ := r.lstE; exact .lst h
 | scr ns => exact absurd rfl (hs ns)
 | exn c => exact absurd rfl (hx c)
theorem nY (T : String) : CallR X (.builtin "isinstance") (fun xs H Q => ∃ x t b, xs = [x, .ty T] ∧ jm X.K H x t ∧ PySem.W.kitOne X.K t (.type T) = some b ∧ Q (.bl b) H) := by
 intro pins s σ H xs us Q I r h
 obtain ⟨x, t, b, rfl, ty, hk, q⟩ := h
 obtain ⟨u, w', rfl, ru, rw'⟩ := ud r
 cases (show w' = Value.type T from rw')
 exact k6 I ru ty hk fun tk => ⟨.bl b, H, I.tok tk, rfl, q⟩
def nu (tb : Dv → Bool) : Dv → Option (Rs Dv)
 | .scr _ => none
 | .exn _ => none
 | d => some (.ok (.bl (tb d)))
theorem uP {T : String} {tb : Dv → Bool} (hk : ∀ K d, PySem.W.kitOne K (.type (tyD d)) (.type T) = some (tb d)) (hT : bootBuiltins (Str.ofString T) = some (.type T)) (hn : Str.ofString T ≠ "__name__") (hdT : (Str.ofString T == ("__debug__" : Str)) = false)
 (hg : Gl X "isinstance") (hm : X.mg "isinstance" = none) (hgT : Gl X (Str.ofString T)) (hmT : X.mg (Str.ofString T) = none) (ha : FE X a fa)
 (hs1 : starEach [a, .Name (Str.ofString T) pT] X.env = (false, eval a X.env) :: starEach [.Name (Str.ofString T) pT] X.env := by kernel_rfl) (hs2 : starEach [.Name (Str.ofString T) pT] X.env = (false, eval (.Name (Str.ofString T) pT) X.env) :: starEach [] X.env := by kernel_rfl)
 (hpl : (backTo pos (starEach [.Name (Str.ofString T) pT] X.env)).any (·.1) = false := by kernel_rfl) :
 FE X (.Call (.Name "isinstance" p) [a, .Name (Str.ofString T) pT] [] pos) (f1 (nu tb) fa) :=
 bj (cR (nY T) hg hm PyProof.Rows.boot_isinstance (bH ha.h (bH (kO (v := .ty T) hgT hmT hT rfl hn hdT) eY hs2) hs1) (by decide) (by decide) hs1 hpl) fun σ H Q ρ E o => ⟨ρ, E, Out.bind o fun d v H1 e1 r o1 => by
  show ∃ x t b, [v, V.ty T] = [x, .ty T] ∧ _
  cases d with
  | scr ns => exact o1.elim
  | exn c => exact o1.elim
  | _ => exact ⟨v, _, _, rfl, qV r (fun ns z => by cases z) (fun c z => by cases z), hk X.K _, o1 _ H1 (.refl H1) rfl⟩⟩
def eS : Dv → Bool
 | .str _ => true
 | _ => false
theorem qW (K : PySem.W.Frag) (d : Dv) : PySem.W.kitOne K (.type (tyD d)) (.type "str") = some (eS d) := by cases d <;> kernel_rfl
def fM (g : Str → List Dv → Option (Rs Dv)) (fo : FnE) (ga : FnA) : FnE := fun ρ => bnd (fo ρ) fun x => match x with
 | .str i => bnd (ga ρ) fun xs => g i xs
 | _ => none
def nZ (h : Str → Str → Bool) : Str → List Dv → Option (Rs Dv)
 | x, [.str y] => some (.ok (.bl (h x y)))
 | _, _ => none
def qX (h : Str → Str → Bool) : V → List V → Hp → VK → Prop := fun x xs H Q => ∃ i j, x = .str i ∧ xs = [.str j] ∧ Q (.bl (h i j)) H
theorem yg : MtR X "str.startswith" (qX Txt.startswith) := by
 intro pins s σ H x xs v us Q I rx rs h
 obtain ⟨i, j, rfl, rfl, q⟩ := h
 obtain ⟨t, rfl⟩ := rx
 obtain ⟨u, rfl, ru⟩ := eg rs
 obtain ⟨t', rfl⟩ := ru
 exact SC.startswith ⟨.bl _, H, I, rfl, q⟩
theorem yh : MtR X "str.endswith" (qX Txt.endswith) := by
 intro pins s σ H x xs v us Q I rx rs h
 obtain ⟨i, j, rfl, rfl, q⟩ := h
 obtain ⟨t, rfl⟩ := rx
 obtain ⟨u, rfl, ru⟩ := eg rs
 obtain ⟨t', rfl⟩ := ru
 exact SC.endswith ⟨.bl _, H, I, rfl, q⟩
theorem fV {name : Str} {id : String} {r : V → List V → Hp → VK → Prop} {g : Str → List Dv → Option (Rs Dv)} (slot : Slot "str" name id) (hty : typeOf (.builtin id) = pure (.type "method_descriptor")) (hm : MtR X id r)
 (hg : ∀ i ds vs H Q, Reps X.K H ds vs → Out X H (g i ds) Q → r (.str i) vs H Q) (ho : FE X o fo) (ha : FA X (e :: es) ga)
 (hbase : attributeBase o name X.env (eval o X.env) = eval o X.env := by kernel_rfl)
 (hfew : ((backTo cpos (starEach (e :: es) X.env)).all (fun x => !x.1) && (backToKw cpos (keywordEach [] X.env)).all (fun x => x.1.isSome)
   && decide ((e :: es).length + ([] : List Keyword).length + (if ([] : List Keyword).isEmpty then 0 else 1) < 30)) = true := by kernel_rfl)
 (hline : (apos.endLine == cpos.line) = true := by kernel_rfl) (hs : starEach (e :: es) X.env = (false, eval e X.env) :: starEach es X.env := by kernel_rfl) (hplain : (backTo cpos (starEach es X.env)).any (·.1) = false := by kernel_rfl) :
 FE X (.Call (.Attribute o name apos) (e :: es) [] cpos) (fM g fo ga) :=
 bj (qN PySem.F.plainAttrs_str slot hty hm ho.h ha.h hbase hfew hline hs hplain) fun σ H Q ρ E o => ⟨ρ, E, Out.bind o fun d v H1 e1 rd o1 => by
  cases d <;> try exact (show False from o1).elim
  rename_i i
  cases (show v = .str i from rd)
  exact ⟨rfl, ρ, E.mono e1, OutA.bind o1 fun ds vs H2 e2 rs o2 => hg i ds vs H2 Q rs o2⟩⟩
theorem pR {h : Str → Str → Bool} (i : Str) (ds : List Dv) (vs : List V) (H : Hp) (Q : VK) (rs : Reps X.K H ds vs) (o : Out X H (nZ h i ds) Q) : qX h (.str i) vs H Q := by
 unfold nZ at o
 split at o
 · rename_i j
   obtain ⟨w, rfl, rw'⟩ := cL rs
   cases (show w = .str j from rw')
   exact ⟨i, j, rfl, rfl, o _ H (.refl H) rfl⟩
 · exact o.elim
def zm (K : PySem.W.Frag) : R2 := fun x y H Q => ∃ (a b : Addr) (ns : List Int), x = .ref a ∧ y = .ref b ∧ SqL K H a (ns.map V.int) ∧ H b = some (.lst []) ∧ Q (.bl ns.isEmpty) H
theorem yi (hu : X.A.units < cLine) : OpR X (compareOp .Eq) (zm X.K) := by
 intro pins s σ H x y v u Q I rx ry h
 obtain ⟨a, b, ns, rfl, rfl, h1, h2, q⟩ := h
 cases rx
 cases ry
 obtain ⟨its, r, pl, hz⟩ := I.list h1
 obtain ⟨z2, its2, n2, r2, hl2, e2⟩ := I.lstM h2
 cases r2
 have hb : s.heap.IsList b #[] := ⟨_, e2, rfl, _, rfl⟩
 have hl := r.length
 cases ns with
 | nil =>
  have e0 : its = [] := by cases its with | nil => rfl | cons _ _ => simp at hl
  subst e0
  exact SeqAt.eq_listAt (e := fun _ => true) pl.isList hb rfl hu (fun i hi => absurd hi (by simp)) (by first | exact ⟨.bl _, H, I, rfl, q⟩ | (refine ⟨.bl _, H, I, ?_, q⟩; simp [RelV]))
 | cons n ns =>
  refine SeqAt.eq_list_lengthsAt pl.isList hb ?_ hu ⟨.bl _, H, I, rfl, q⟩
  have : 0 < its.length := by rw [← hl]; simp
  simp
  exact fun z => by rw [z] at this; simp at this
def xg : Dv → Dv → Option (Rs Dv)
 | .scr ns, .lst [] => some (.ok (.bl ns.isEmpty))
 | _, _ => none
theorem yj : GOp X (zm X.K) xg := by
 intro dx dy x y H Q rx ry o
 unfold xg at o
 split at o
 · rename_i ns
   obtain ⟨a, rfl, h1⟩ := rx.scrE
   obtain ⟨b, xs, rfl, h2, h3⟩ := ry.lstE
   cases (show xs = [] from h3)
   exact ⟨a, b, ns, rfl, rfl, h1, h2, o _ H (.refl H) rfl⟩
 · exact o.elim
end
end FD
namespace FD
open PySem
theorem uQ : bootBuiltins (Str.ofString "str") = some (.type "str") := PyProof.Rows.boot_str
end FD
namespace FD
open PySem PySem.Spec PyProof.Rows L2
mutual
def bI : Dv → PyData
 | .non => .none
 | .bl b => .bool b
 | .int i => .int i
 | .str x => .str x
 | .tup xs => .tuple (toPys xs)
 | .lst xs => .list (toPys xs)
 | .scr ns => .list (ns.map PyData.int)
 | .exn _ => .dict []
def toPys : List Dv → List PyData
 | [] => []
 | d :: ds => bI d :: toPys ds
end
section
variable {X : Cx} {pins : List (Addr × Obj)} {σ : L2.St} {H : Hp} {s : Shared}
theorem fq : ∀ {ns : List Int} {us : List Value}, Vals (ns.map V.int) us → ∃ as, ReadsAll s.heap us (ns.map PyData.int) as
 | [], us, r => by cases r; exact ⟨_, .nil⟩
 | n :: ns, us, r => by
  cases r with
  | cons r1 r2 =>
   obtain ⟨t, rfl⟩ := r1
   obtain ⟨as, q⟩ := fq r2
   exact ⟨_, .cons (.int n t) q⟩
mutual
theorem Rep.reads (I : Inv X pins σ H s) : ∀ (d : Dv) (v : V) (u : Value), Rep X.K H d v → RelV v u → (bI d).canLay0 = true → ∃ as, Reads s.heap u (bI d) as
 | .non, v, u, r, q, hz0 => by cases (show v = .non from r); cases (show u = Value.none from q); exact ⟨_, .none⟩
 | .bl b, v, u, r, q, hz0 => by cases (show v = .bl b from r); cases (show u = Value.bool b from q); exact ⟨_, .bool b⟩
 | .int i, v, u, r, q, hz0 => by cases (show v = .int i from r); obtain ⟨t, rfl⟩ := (show ∃ t, u = Value.int i t from q); exact ⟨_, .int i t⟩
 | .str x, v, u, r, q, hz0 => by cases (show v = .str x from r); obtain ⟨t, rfl⟩ := (show ∃ t, u = Value.str x t from q); exact ⟨_, .str x t⟩
 | .tup ds, v, u, r, q, hz0 => by
  obtain ⟨a, xs, rfl, h, rs⟩ := r.tupE
  cases (show u = Value.ref a from q)
  obtain ⟨its, rv, ⟨o, e, c, n, d⟩, hz⟩ := I.tuple (SqT.of h)
  obtain ⟨as, ra⟩ := Reps.reads I ds xs its rs rv (by simpa [bI, PyData.canLay0] using hz0)
  exact ⟨as, .tuple e c d (by simpa using ra)⟩
 | .lst ds, v, u, r, q, hz0 => by
  obtain ⟨a, xs, rfl, h, rs⟩ := r.lstE
  cases (show u = Value.ref a from q)
  obtain ⟨z, its, n, rv, hl, e⟩ := I.lstM h
  obtain ⟨as, ra⟩ := Reps.reads I ds xs its rs rv (by simpa [bI, PyData.canLay0] using hz0)
  exact ⟨a :: as, .list e rfl rfl (by simpa using ra)⟩
 | .scr ns, v, u, r, q, hz0 => by
  obtain ⟨a, rfl, h⟩ := r.scrE
  cases (show u = Value.ref a from q)
  obtain ⟨its, rv, ⟨o, n, e, c, hd, d⟩, hz⟩ := I.list h
  obtain ⟨as, ra⟩ := fq (s := s) rv
  exact ⟨a :: as, .list e c d (by simpa using ra)⟩
 | .exn c, v, u, r, q, hz0 => by simp [bI, PyData.canLay0] at hz0
theorem Reps.reads (I : Inv X pins σ H s) : ∀ (ds : List Dv) (vs : List V) (us : List Value), Reps X.K H ds vs → Vals vs us → PyData.canLayAll0 (toPys ds) = true → ∃ as, ReadsAll s.heap us (toPys ds) as
 | [], vs, us, r, q, _ => by cases (show vs = [] from r); cases q; exact ⟨_, .nil⟩
 | d :: ds, vs, us, r, q, hz0 => by
  obtain ⟨v, ws, rfl, r1, r2⟩ : ∃ v us, vs = v :: us ∧ Rep X.K H d v ∧ Reps X.K H ds us := r
  cases q with
  | cons q1 q2 =>
   have hz1 : (bI d).canLay0 = true ∧ PyData.canLayAll0 (toPys ds) = true := by simpa [toPys, PyData.canLayAll0] using hz0
   obtain ⟨as, a⟩ := Rep.reads I d v _ r1 q1 hz1.1
   obtain ⟨bs, b⟩ := Reps.reads I ds ws _ r2 q2 hz1.2
   exact ⟨_, .cons a b⟩
end
end
section
variable {X : Cx}
def okP (d : Dv) : Bool := SeqAt.shaped (bI d)
def rPy (X : Cx) (neg : Bool) : R2 := fun x y H Q => ∃ dx dy, Rep X.K H dx x ∧ Rep X.K H dy y ∧ okP dx = true ∧ okP dy = true ∧ Q (.bl (if neg then !PyData.eqv (bI dx) (bI dy) else PyData.eqv (bI dx) (bI dy))) H
theorem uR (hu : X.A.units + 64 < cLine) : OpR X (compareOp .Eq) (rPy X false) := by
 intro pins s σ H x y v u Q I rx ry h
 obtain ⟨dx, dy, qx, qy, hx, hy, q⟩ := h
 obtain ⟨as, ra⟩ := Rep.reads I dx x v qx rx (Bool.and_eq_true_iff.mp hx).1
 obtain ⟨bs, rb⟩ := Rep.reads I dy y u qy ry (Bool.and_eq_true_iff.mp hy).1
 exact SeqAt.compareEq_shaped ra rb hx hy hu ⟨.bl _, H, I, rfl, q⟩
theorem uS (hu : X.A.units + 64 < cLine) : OpR X (compareOp .NotEq) (rPy X true) := by
 intro pins s σ H x y v u Q I rx ry h
 obtain ⟨dx, dy, qx, qy, hx, hy, q⟩ := h
 obtain ⟨as, ra⟩ := Rep.reads I dx x v qx rx (Bool.and_eq_true_iff.mp hx).1
 obtain ⟨bs, rb⟩ := Rep.reads I dy y u qy ry (Bool.and_eq_true_iff.mp hy).1
 exact SeqAt.compareNe_shaped ra rb hx hy hu ⟨.bl _, H, I, rfl, q⟩
def eqX (x y : Dv) : Option (Rs Dv) := match eqS x y with
 | some b => some (.ok (.bl b))
 | none => if okP x && okP y then some (.ok (.bl (PyData.eqv (bI x) (bI y)))) else none
def neX (x y : Dv) : Option (Rs Dv) := match eqS x y with
 | some b => some (.ok (.bl (!b)))
 | none => if okP x && okP y then some (.ok (.bl (!PyData.eqv (bI x) (bI y)))) else none
def zn (X : Cx) : R2 := fun x y H Q => rEq x y H Q ∨ rPy X false x y H Q
def zo (X : Cx) : R2 := fun x y H Q => rNe x y H Q ∨ rPy X true x y H Q
theorem uT (hu : X.A.units + 64 < cLine) : OpR X (compareOp .Eq) (zn X) := op_eq.or (uR hu)
theorem qY (hu : X.A.units + 64 < cLine) : OpR X (compareOp .NotEq) (zo X) := op_ne.or (uS hu)
theorem uU : GOp X (zn X) eqX := by
 intro dx dy x y H Q rx ry o
 unfold eqX at o
 split at o
 · rename_i b hb
   obtain ⟨h1, h2⟩ := pO rx ry hb
   exact .inl ⟨h1, by rw [h2]; exact o _ H (.refl H) rfl⟩
 · split at o
   · rename_i hc
     rw [Bool.and_eq_true] at hc
     exact .inr ⟨dx, dy, rx, ry, hc.1, hc.2, o _ H (.refl H) rfl⟩
   · exact o.elim
theorem qZ : GOp X (zo X) neX := by
 intro dx dy x y H Q rx ry o
 unfold neX at o
 split at o
 · rename_i b hb
   obtain ⟨h1, h2⟩ := pO rx ry hb
   exact .inl ⟨h1, by rw [h2]; exact o _ H (.refl H) rfl⟩
 · split at o
   · rename_i hc
     rw [Bool.and_eq_true] at hc
     exact .inr ⟨dx, dy, rx, ry, hc.1, hc.2, o _ H (.refl H) rfl⟩
   · exact o.elim
def ltX : Dv → Dv → Option (Rs Dv)
 | .int i, .int j => some (.ok (.bl (decide (i < j))))
 | .str x, .str y => some (.ok (.bl (decide (x.cps.toList < y.cps.toList))))
 | _, _ => none
def zp : R2 := fun x y H Q => rI0 (fun i j => .bl (decide (i < j))) x y H Q ∨ ∃ i j, x = .str i ∧ y = .str j ∧ Q (.bl (decide (i.cps.toList < j.cps.toList))) H
theorem yk : OpR X (compareOp .Lt) zp := op_lt.or kW
theorem ym : GOp X zp ltX := by
 intro dx dy x y H Q rx ry o
 cases dx <;> cases dy <;> try exact (show False from o).elim
 · rename_i i j
   exact .inl ⟨i, j, rx, ry, o _ H (.refl H) rfl⟩
 · rename_i i j
   exact .inr ⟨i, j, rx, ry, o _ H (.refl H) rfl⟩
theorem gO : ∀ (ps : List Str) (k : Nat), Vals (ps.map V.str) (strsFrom k ps)
 | [], _ => .nil
 | p :: ps, k => .cons ⟨k, rfl⟩ (gO ps (k + 1))
theorem gQ {K : PySem.W.Frag} {H : Hp} : ∀ ps : List Str, Reps K H (ps.map Dv.str) (ps.map V.str)
 | [] => rfl
 | p :: ps => ⟨.str p, ps.map V.str, rfl, rfl, gQ ps⟩
def bN : Str → List Dv → Option (Rs Dv)
 | x, [.str y] => if y.length ≠ 0 ∧ x.length ≤ 100000 ∧ (Txt.split x y).length ≤ 100000 then some (.ok (.lst ((Txt.split x y).map Dv.str))) else none
 | _, _ => none
def pS : V → List V → Hp → VK → Prop := fun x xs H Q => ∃ i j, x = .str i ∧ xs = [.str j] ∧ j.length ≠ 0 ∧ i.length ≤ sizeLine ∧ (Txt.split i j).length ≤ sizeLine ∧ ∀ p, H p = none → Q (.ref p) (upd H p (.lst ((Txt.split i j).map V.str)))
theorem fW : MtR X "str.split" pS := by
 intro pins s σ H x xs v us Q I rx rs h
 obtain ⟨i, j, rfl, rfl, hj, hi, hn, q⟩ := h
 obtain ⟨t, rfl⟩ := rx
 obtain ⟨u, rfl, ru⟩ := eg rs
 obtain ⟨t', rfl⟩ := ru
 have hy : (j.length == 0) = false := by simpa using hj
 have one : ∀ {s' : Shared}, s' = { s with heap := s.heap.push { cls := .type "list", data := .seq [Value.str i t].toArray } } → Txt.split i j = [i] → EP X pins σ Q (.ref s.heap.objs.size) s' := fun e e2 => by
  subst e
  rw [e2] at q
  exact ⟨.ref _, _, I.lnew (its := [Value.str i t]) (ys := [V.str i]) (t' := s.toks) (.cons ⟨t, rfl⟩ .nil) (by show 1 ≤ sizeLine; decide), rfl, q _ I.fresh⟩
 cases h1 : (decide (i.length < j.length) || decide (Builtin.Str.strKind i < Builtin.Str.strKind j))
 · cases hf : (Builtin.Str.occurrences i j 0 i.length (i.length + 1)).isEmpty
   · have e2 : Txt.split i j = Builtin.Str.partsBetween i (Builtin.Str.occurrences i j 0 i.length (i.length + 1)) j.length := by
      unfold Txt.split
      rw [if_neg (by rw [h1]; exact Bool.false_ne_true), if_neg (by rw [hf]; exact Bool.false_ne_true)]
     rw [e2] at q hn
     refine call_meets F.slot_str_split (typeIs_str _ _ _) F.entry_str_split (F.args_str_split_2 _ _) (meets_str_split_sep i j t t' h1 hy hf hi hn) ?_
     exact ⟨.ref _, _, I.lnew (t' := _) (gO _ _) (by rw [List.length_map]; exact hn), rfl, q _ I.fresh⟩
   · refine call_meets F.slot_str_split (typeIs_str _ _ _) F.entry_str_split (F.args_str_split_2 _ _) (meets_str_split_not_found i j t t' h1 hy hf) ?_
     exact one rfl (by unfold Txt.split; rw [if_neg (by rw [h1]; exact Bool.false_ne_true), if_pos hf])
 · refine call_meets F.slot_str_split (typeIs_str _ _ _) F.entry_str_split (F.args_str_split_2 _ _) (meets_str_split_cannot_occur i j t t' h1) ?_
   exact one rfl (by unfold Txt.split; rw [if_pos h1])
theorem iD (i : Str) (ds : List Dv) (vs : List V) (H : Hp) (Q : VK) (rs : Reps X.K H ds vs) (o : Out X H (bN i ds) Q) : pS (.str i) vs H Q := by
 unfold bN at o
 split at o
 · rename_i j
   split at o
   · rename_i hc
     obtain ⟨w, rfl, rw'⟩ := cL rs
     cases (show w = .str j from rw')
     exact ⟨i, j, rfl, rfl, hc.1, aI hc.2.1, aI hc.2.2, fun p hp => o _ _ (ao hp _) ⟨p, _, rfl, am, gQ _⟩⟩
   · exact o.elim
 · exact o.elim
def yn : List Dv → Option (List Str)
 | [] => some []
 | .str x :: r => (match yn r with | some xs => some (x :: xs) | none => none)
 | _ => none
def iE : Str → List Dv → Option (Rs Dv)
 | x, [.str y] => if y.length ≠ 0 ∧ x.length ≤ 100000 then some (.ok (.tup [.str (Txt.partition x y).1, .str (Txt.partition x y).2.1, .str (Txt.partition x y).2.2])) else none
 | _, _ => none
def uV : V → List V → Hp → VK → Prop := fun x xs H Q => ∃ i j, x = .str i ∧ xs = [.str j] ∧ j.length ≠ 0 ∧ i.length ≤ sizeLine ∧ ∀ p, H p = none → Q (.ref p) (upd H p (.tup [.str (Txt.partition i j).1, .str (Txt.partition i j).2.1, .str (Txt.partition i j).2.2]))
theorem q8 : MtR X "str.partition" uV := by
 intro pins s σ H x xs v us Q I rx rs h
 obtain ⟨i, j, rfl, rfl, hj, hi, q⟩ := h
 obtain ⟨t, rfl⟩ := rx
 obtain ⟨u, rfl, ru⟩ := eg rs
 obtain ⟨t', rfl⟩ := ru
 have hy : (j.length == 0) = false := by simpa using hj
 have fin : ∀ (a b c : Str) (ta tb tc : Tok) (k : Nat), Txt.partition i j = (a, b, c) → EP X pins σ Q (.ref s.heap.objs.size) { s with toks := k, heap := s.heap.push { cls := .type "tuple", data := .seq [Value.str a ta, .str b tb, .str c tc].toArray } } := fun a b c ta tb tc k e => by
  rw [e] at q
  refine ⟨.ref _, _, I.laid (t' := k) (fun b u e => Heap.get?_push_of_some _ e) (Nat.le_refl _) ?_, rfl, q _ I.fresh⟩
  exact ⟨by show 3 ≤ sizeLine; decide, [Value.str a ta, .str b tb, .str c tc], .cons ⟨_, rfl⟩ (.cons ⟨_, rfl⟩ (.cons ⟨_, rfl⟩ .nil)), ⟨_, Heap.get?_push_size _ rfl, rfl, _, rfl⟩⟩
 refine call_meets F.slot_str_partition (typeIs_str _ _ _) F.entry_str_partition (F.args_str_partition_2 _ _) (meets_str_partition i j t t' hy hi) ?_
 cases ho : Builtin.Str.occurrences i j 0 i.length 1 with
 | nil => exact fin _ _ _ _ _ _ _ (by unfold Txt.partition; rw [ho])
 | cons k r => exact fin _ _ _ _ _ _ _ (by unfold Txt.partition; rw [ho])
theorem uW (i : Str) (ds : List Dv) (vs : List V) (H : Hp) (Q : VK) (rs : Reps X.K H ds vs) (o : Out X H (iE i ds) Q) : uV (.str i) vs H Q := by
 unfold iE at o
 split at o
 · rename_i j
   split at o
   · rename_i hc
     obtain ⟨w, rfl, rw'⟩ := cL rs
     cases (show w = .str j from rw')
     exact ⟨i, j, rfl, rfl, hc.1, aI hc.2, fun p hp => o _ _ (ao hp _) ⟨p, _, rfl, am, ⟨_, _, rfl, rfl, _, _, rfl, rfl, _, _, rfl, rfl, rfl⟩⟩⟩
   · exact o.elim
 · exact o.elim
variable {p pos : Pos} {e : Expr} {es : List Expr} {ga : FnA}
def gR : List Dv → Option (Rs Dv)
 | [.lst xs] => some (.ok (.tup xs))
 | [.tup xs] => some (.ok (.tup xs))
 | _ => none
theorem oa (hg : Gl X "tuple") (hm : X.mg "tuple" = none) (ha : FA X (e :: es) ga) (he : starEach (e :: es) X.env = (false, eval e X.env) :: starEach es X.env := by kernel_rfl) (hpl : (backTo pos (starEach es X.env)).any (·.1) = false := by kernel_rfl) : FE X (.Call (.Name "tuple" p) (e :: es) [] pos) (fB1 gR ga) :=
 bj (gG fL hg hm (by decide +kernel) ha.h (by decide) (by decide) he hpl) fun σ H Q ρ E o => ⟨ρ, E, OutA.bind o fun ds vs H1 e1 rs o1 => by
  unfold gR at o1
  split at o1
  · rename_i xs
    obtain ⟨v, rfl, r⟩ := cL rs
    obtain ⟨a, ws, rfl, h1, h2⟩ := r.lstE
    exact ⟨a, ws, rfl, .inl ⟨SqL.of h1, fun l hl => o1 _ _ (ao hl _) ⟨l, ws, rfl, am, Reps.mono (ao hl _) _ _ h2⟩⟩⟩
  · rename_i xs
    obtain ⟨v, rfl, r⟩ := cL rs
    obtain ⟨a, ws, rfl, h1, h2⟩ := r.tupE
    exact ⟨a, ws, rfl, .inr ⟨SqT.of h1, o1 _ H1 (.refl H1) ⟨a, ws, rfl, h1, h2⟩⟩⟩
  · exact o1.elim⟩
end
section
variable {X : Cx} {apos cpos : Pos} {e o : Expr} {es : List Expr} {ga : FnA} {fo : FnE}
def xh (x : Dv) : List Dv → Nat → Option Nat
 | [], _ => none
 | y :: ys, k => if eqF y x then some k else xh x ys (k + 1)
def yo : List Dv → List Dv → Option (Rs Dv)
 | xs, [x] => if cG x && xs.all cG && decide (xs.length ≤ 100000) then (match xh x xs 0 with | some j => some (.ok (.int j)) | none => none) else none
 | _, _ => none
theorem ly {K : PySem.W.Frag} {H : Hp} {x : Dv} {u : V} (q : Rep K H x u) (hx : cG x = true) : ∀ {xs : List Dv} {vs : List V} {k j : Nat}, Reps K H xs vs → xs.all cG = true → xh x xs k = some j →
 k ≤ j ∧ (∃ v, vs[j - k]? = some v ∧ eqV v u = true) ∧ ∀ (m : Nat) v, m < j - k → vs[m]? = some v → eqV v u = false
 | [], vs, k, j, r, _, h => by cases h
 | y :: ys, vs, k, j, r, hf, h => by
  obtain ⟨v, ws, rfl, r1, r2⟩ : ∃ v us, vs = v :: us ∧ Rep K H y v ∧ Reps K H ys us := r
  rw [List.all_cons, Bool.and_eq_true] at hf
  unfold xh at h
  have e1 := lq r1 q hf.1 hx
  split at h
  · rename_i hh
    cases h
    refine ⟨Nat.le_refl _, ⟨v, by simp, by rw [e1]; exact hh⟩, fun m w hm => by omega⟩
  · rename_i hh
    obtain ⟨a, ⟨w, b1, b2⟩, c⟩ := ly q hx r2 hf.2 h
    refine ⟨by omega, ⟨w, ?_, b2⟩, fun m z hm hz => ?_⟩
    · have e : j - k = (j - (k + 1)) + 1 := by omega
      rw [e, List.getElem?_cons_succ]
      exact b1
    · cases m with
      | zero =>
       have : z = v := by simpa using hz.symm
       subst this
       rw [e1]
       simpa using hh
      | succ m => exact c m z (by omega) (by simpa using hz)
def uX : V → List V → Hp → VK → Prop := fun x xs H Q => ∃ a vs y j, x = .ref a ∧ xs = [y] ∧ H a = some (.lst vs) ∧ b6 y = true ∧ vs.all b6 = true ∧ vs.length ≤ 100000 ∧ (∃ v, vs[j]? = some v ∧ eqV v y = true) ∧ (∀ (m : Nat) v, m < j → vs[m]? = some v → eqV v y = false) ∧ Q (.int j) H
theorem pU {y : V} {vs : List V} {its : List Value} (r : Vals vs its) (f : vs.all b6 = true) {m : Nat} {v : V} (h : vs[m]? = some v) : ∃ hm : m < its.length, eqU y its[m] = eqV v y := by
 obtain ⟨u, hu, ru⟩ := r.get h
 obtain ⟨hm, e⟩ := List.getElem?_eq_some_iff.mp hu
 refine ⟨hm, ?_⟩
 rw [e]
 exact jq ru (List.all_eq_true.mp f v (List.mem_of_getElem? h))
theorem og : MtR X "list.index" uX := by
 intro pins s σ H x xs v us Q I rx rs h
 obtain ⟨a, vs, y, j, rfl, rfl, h1, fy, fv, hz, ⟨w, hw, hit⟩, hno, q⟩ := h
 cases rx
 obtain ⟨u, rfl, ru⟩ := eg rs
 obtain ⟨z, its, n, rv, hl, e⟩ := I.lstM h1
 obtain ⟨hj, ej⟩ := pU (y := y) rv fv hw
 refine call_meets PySem.F.slot_list_index ⟨_, e, rfl⟩ PySem.F.entry_list_index (PySem.F.args_list_index_2 _ _) (SeqAt.list_indexAt a its.toArray n none #[] u (eqU y) j (by simpa using hj) (by omega) (by simpa [ej] using hit) fun m hm hlt => ?_) ⟨e, fun t ht => bY ru fy rv fv t (by simpa using ht), ⟨.int j, H, I.tok _, ⟨_, rfl⟩, q⟩⟩
 have hm' : m < vs.length := by rw [rv.length]; simpa using hm
 obtain ⟨hm2, em⟩ := pU (y := y) rv fv (List.getElem?_eq_getElem hm')
 have := hno m vs[m] hlt (List.getElem?_eq_getElem hm')
 simpa [em] using this
def fML (g : List Dv → List Dv → Option (Rs Dv)) (fo : FnE) (ga : FnA) : FnE := fun ρ => bnd (fo ρ) fun x => match x with
 | .lst i => bnd (ga ρ) fun xs => g i xs
 | _ => none
theorem oh (ho : FE X o fo) (ha : FA X (e :: es) ga)
 (hbase : attributeBase o "index" X.env (eval o X.env) = eval o X.env := by kernel_rfl)
 (hfew : ((backTo cpos (starEach (e :: es) X.env)).all (fun x => !x.1) && (backToKw cpos (keywordEach [] X.env)).all (fun x => x.1.isSome)
   && decide ((e :: es).length + ([] : List Keyword).length + (if ([] : List Keyword).isEmpty then 0 else 1) < 30)) = true := by kernel_rfl)
 (hline : (apos.endLine == cpos.line) = true := by kernel_rfl) (hs : starEach (e :: es) X.env = (false, eval e X.env) :: starEach es X.env := by kernel_rfl) (hplain : (backTo cpos (starEach es X.env)).any (·.1) = false := by kernel_rfl) :
 FE X (.Call (.Attribute o "index" apos) (e :: es) [] cpos) (fML yo fo ga) :=
 bj (qN PySem.F.plainAttrs_list PySem.F.slot_list_index PySem.F.type_list_index og ho.h ha.h hbase hfew hline hs hplain) fun σ H Q ρ E o => ⟨ρ, E, Out.bind o fun d v H1 e1 rd o1 => by
  cases d <;> try exact (show False from o1).elim
  rename_i ds
  obtain ⟨a, vs, rfl, h1, h2⟩ := rd.lstE
  refine ⟨.inl ⟨rfl, vs, SqL.of h1⟩, ρ, E.mono e1, OutA.bind o1 fun es ws H2 e2 rs o2 => ?_⟩
  unfold yo at o2
  split at o2
  · rename_i x
    split at o2
    · rename_i hc
      rw [Bool.and_eq_true, Bool.and_eq_true] at hc
      split at o2
      · rename_i j hj
        obtain ⟨w, rfl, rw'⟩ := cL rs
        have h2' := Reps.mono e2 _ _ h2
        obtain ⟨c1, c2, c3⟩ := ly rw' hc.1.1 h2' hc.1.2 hj
        refine ⟨a, vs, w, j, rfl, rfl, e2 _ _ h1, fR rw' hc.1.1, dL h2' hc.1.2, by rw [h2.length]; exact of_decide_eq_true hc.2, by simpa using c2, by simpa using c3, o2 _ H2 (.refl H2) rfl⟩
      · exact o2.elim
    · exact o2.elim
  · exact o2.elim⟩
end
structure FG (X : Cx) (tg : Expr) (b : Dv → Ev → Option Ev) : Prop where
 h : ∀ (pins : List (Addr × Obj)) (s : Shared) (σ : L2.St) (H : Hp) (v : V) (u : Value) (d : Dv) (ρ ρ' : Ev), Inv X pins σ H s → RelV v u → Rep X.K H d v → Envs X.K H σ ρ → b d ρ = some ρ' →
  wpAny (model X.prog X.w) X.A (assign tg X.env u) (fun _ s' => ∃ σ' H', Inv X pins σ' H' s' ∧ Same H H' ∧ Envs X.K H' σ' ρ') X.xe s
def gN (i : Nat) : Dv → Ev → Option Ev := fun d ρ => some (ρ.set i (some d))
def gP (i j : Nat) : Dv → Ev → Option Ev := fun d ρ => match d with
 | .tup [a, c] => some ((ρ.set i (some a)).set j (some c))
 | _ => none
section
variable {X : Cx} {pos p1 p2 : Pos}
theorem iF (i : Nat) {x : Str} (hN : X.N.Nodup) (hi : X.N[i]? = some x) (hx : Loc X.env.scope x) (hf : X.fn x = true ∨ X.env.scope.names.lookup x = some .local) : FG X (.Name x pos) (gN i) :=
 ⟨fun pins s σ H v u d ρ ρ' I r rd E e => by
  cases e
  exact thn (bW hN hi hx hf pins s σ H v u (fun σ' H' => H' = H ∧ σ' = σ.set i (some v)) I r ⟨rfl, rfl⟩) fun _ s' ⟨σ', H', I', e1, e2⟩ => by
   subst e1 e2
   exact ⟨_, _, I', .refl _, E.set rd⟩⟩
theorem q9 (i j : Nat) {x y : Str} {k : Nat} (hc : X.calm = true) (hN : X.N.Nodup) (hi : X.N[i]? = some x) (hx : Loc X.env.scope x) (hf : X.fn x = true ∨ X.env.scope.names.lookup x = some .local)
 (hj : X.N[j]? = some y) (hy : Loc X.env.scope y) (hg : X.fn y = true ∨ X.env.scope.names.lookup y = some .local)
 (hs1 : (assignEach [.Name x p1, .Name y p2] X.env).map (·.2) = assign (.Name x p1) X.env :: (assignEach [.Name y p2] X.env).map (·.2) := by kernel_rfl) (hs2 : (assignEach [.Name y p2] X.env).map (·.2) = assign (.Name y p2) X.env :: (assignEach [] X.env).map (·.2) := by kernel_rfl)
 (hn : (assignEach [.Name x p1, .Name y p2] X.env).length = 2 := by kernel_rfl) (hst : (assignEach [.Name x p1, .Name y p2] X.env).findIdx? (·.1) = none := by kernel_rfl) : FG X (.Tuple [.Name x p1, .Name y p2] k pos) (gP i j) :=
 ⟨fun pins s σ H v u d ρ ρ' I r rd E e => by
  unfold gP at e
  split at e
  · rename_i a c
    cases e
    obtain ⟨ad, xs, rfl, h1, h2⟩ := rd.tupE
    obtain ⟨va, vc, rfl, ra, rc⟩ := yf h2
    refine thn (tQ (n := 2) hc (jj (bW (i := i) hN hi hx hf) (jj (bW (i := j) hN hj hy hg) qD hs2) hs1) hn hst pins s σ H _ u (fun σ' H' => H' = H ∧ σ' = (σ.set i (some va)).set j (some vc)) I r ⟨ad, _, rfl, SqT.of h1, rfl, va, [vc], rfl, vc, [], rfl, rfl, rfl, rfl⟩) fun _ s' ⟨σ', H', I', e1, e2⟩ => ?_
    subst e1 e2
    exact ⟨_, _, I', .refl _, (E.set ra).set rc⟩
  · cases e⟩
end
structure WkG (K : PySem.W.Frag) (J : It) (ds : List Dv) (H0 : Hp) : Prop where
 go : ∀ i H, Same H0 H → i < ds.length → J.go i H
 stop : ∀ H, Same H0 H → J.stop ds.length H
 yld : ∀ i H x H', Same H0 H → i < ds.length → J.yld i H x H' → Same H H' ∧ ∃ d, ds[i]? = some d ∧ Rep K H' d x
theorem Wk.toG {K : PySem.W.Frag} {J : It} {ds : List Dv} {H0 : Hp} (w : Wk K J ds H0) : WkG K J ds H0 :=
 ⟨w.go, w.stop, fun i H x H' e hi y => by
  obtain ⟨rfl, d, h1, h2⟩ := w.yld i H x H' e hi y
  exact ⟨.refl _, d, h1, h2⟩⟩
def OutG (X : Cx) (H : Hp) (o : Option (Rs (List Dv))) (R : It → Hp → Prop) : Prop := match o with
 | none => False
 | some (.exc c) => XW X c H
 | some (.ok ds) => ∀ J H', Same H H' → WkG X.K J ds H' → R J H'
theorem OutG.mono {X : Cx} {H H' : Hp} {R : It → Hp → Prop} (e : Same H H') : ∀ {o : Option (Rs (List Dv))}, OutG X H o R → OutG X H' o R
 | none, h => h
 | some (.exc _), h => XW.mono h e
 | some (.ok _), h => fun v H1 e1 r => h v H1 (e.trans e1) r
structure FIG (X : Cx) (tg iter : Expr) (f : FnA) : Prop where
 h : PI X tg iter fun σ H R => ∃ ρ, Envs X.K H σ ρ ∧ OutG X H (f ρ) R
theorem FI.toG {X : Cx} {tg iter : Expr} {f : FnA} (h : FI X tg iter f) : FIG X tg iter f :=
 ⟨fun pins s σ H R I ⟨ρ, E, o⟩ => h.h pins s σ H R I ⟨ρ, E, by
  match hf : f ρ, o with
  | some (.exc c), o => exact o
  | some (.ok ds), o => exact fun J H' e w => o J H' e w.toG⟩⟩
def br (m : Nat) (cs : List (Str × Nat)) (ρ : Ev) : Ev := List.replicate m none ++ cs.map fun c => (ρ[c.2]?).join
def dO (b : Dv → Ev → Option Ev) (tst : Option FnB) (elt : FnE) (cap : Ev) : List Dv → Option (List Dv)
 | [] => some []
 | d :: ds => match b d cap with
  | none => none
  | some ρ => match (match tst with | none => (some (.ok true) : Option (Rs Bool)) | some t => t ρ) with
   | some (.ok true) => (match elt ρ with
    | some (.ok y) => (match dO b tst elt cap ds with | some ys => some (y :: ys) | none => none)
    | _ => none)
   | some (.ok false) => dO b tst elt cap ds
   | _ => none
structure eo (osc scope : Scope) (cs : List (Str × Nat)) (N : List Str) : Prop where
 kind : scope.kind = .function
 cell : ∀ y ∈ scope.names, y.2 ≠ .cell
 names : ∀ y ∈ scope.names, y.2 = .local → scope.names.lookup y.1 = some .local
 free : ∀ y ∈ scope.names, y.2 = .free → osc.names.lookup y.1 = some .cell ∨ osc.names.lookup y.1 = some .free
 caps : ∀ c ∈ cs, N[c.2]? = some c.1 ∧ scope.names.lookup c.1 = some .free
def di (m : Nat) (cs : List (Str × Nat)) (σ : L2.St) : L2.St := List.replicate m none ++ cs.map fun c => (σ[c.2]?).join
theorem er {α : Type} {m i : Nat} {v : α} {l : List (Option α)} (h : (List.replicate m (none : Option α) ++ l)[i]? = some (some v)) : ∃ k, i = m + k ∧ l[k]? = some (some v) := by
 by_cases hi : i < m
 · rw [List.getElem?_append_left (by simpa using hi), List.getElem?_replicate, if_pos hi] at h
   cases h
 · refine ⟨i - m, by omega, ?_⟩
   rw [List.getElem?_append_right (by simpa using hi)] at h
   simpa using h
theorem gS {K : PySem.W.Frag} {H : Hp} {σ : L2.St} {ρ : Ev} (m : Nat) (cs : List (Str × Nat)) (E : Envs K H σ ρ) : Envs K H (di m cs σ) (br m cs ρ) := by
 refine ⟨by simp [di, br], fun i d h => ?_⟩
 obtain ⟨k, rfl, hk⟩ := er h
 rw [List.getElem?_map] at hk
 cases hc : cs[k]? with
 | none => rw [hc] at hk; simp at hk
 | some c =>
  rw [hc] at hk
  simp only [Option.map_some, Option.some.injEq] at hk
  have h2 : ρ[c.2]? = some (some d) := by
   cases q : ρ[c.2]? with
   | none => rw [q] at hk; simp at hk
   | some o => rw [q] at hk; simp at hk; rw [hk]
  obtain ⟨v, h3, h4⟩ := E.at' c.2 d h2
  refine ⟨v, ?_, h4⟩
  unfold di
  rw [List.getElem?_append_right (by simp)]
  simp only [List.length_replicate, Nat.add_sub_cancel_left, List.getElem?_map, hc, Option.map_some, h3]
  rfl
theorem lz {X : Cx} {pins : List (Addr × Obj)} {σ : L2.St} {H : Hp} {s : Shared} {scope : Scope} {ns : List Str} {cs : List (Str × Nat)} {fp : List Addr} {h₁ : Heap} {C : Addr} {t' : Nat} (ok : eo X.env.scope scope cs X.N) (I : Inv X pins σ H s) (hfp : ∀ b ∈ fp, jk X pins H b) (hlt : ∀ b ∈ fp, b < s.heap.objs.size)
 (hC : s.heap.objs.size ≤ C) (hns : h₁.Ns C fun _ => none) (old : ∀ b o, s.heap.get? b = some o → h₁.get? b = some o) :
 Inv (aD X (ns ++ cs.map (·.1)) scope C s H fp) [] (di ns.length cs σ) H { s with heap := h₁, toks := t' } := by
 have cl1 : ∀ n c, (cz scope.names X.env []).lookup n = some c → X.env.cells.lookup n = some c := fun n c e => by
  rcases dg _ _ e with q | ⟨q1, q2⟩
  · simp at q
  · obtain ⟨c', e'⟩ := I.ok.has n (ok.free _ q1 rfl)
    rw [e'] at q2
    rw [e', q2] <;> rfl
 have kf : ∀ n k, (relabel scope X.env).names.lookup n = some k → (k = .cell ∨ k = .free) → (n, NameKind.free) ∈ scope.names := fun n k h hk => by
  rcases cf h with q | ⟨_, q⟩
  · rcases hk with rfl | rfl
    · exact absurd rfl (ok.cell _ q)
    · exact q
  · exact q
 refine ⟨⟨I.ok.mod, ok.kind, I.ok.glob, I.ok.blt, hC, fun y z c e1 e2 => I.ok.inj y z c (cl1 y c e1) (cl1 z c e2), fun y hy => ?_, fun y c h => Bool.noConfusion h, I.ok.hd, I.ok.frames, .inl rfl, fun b hb => ⟨fun z => ?_, fun y c e => (hfp b hb).2.2.2.2.1 y c (cl1 y c e)⟩, I.bs, Nat.le_trans I.ok.bsz I.sz, fun b o e hb => ?_, fun b hb z => ?_, I.stack, I.stkFree⟩,
  rfl, I.bare, Un.kept old, ⟨_, hns, fun i y v h1 h2 h3 => ?_⟩, fun y c e => ?_, I.hok.fresh hC, fun y c e => I.freeC y c (cl1 y c e), fun p hp => absurd (show p ∈ ([] : List (Addr × Obj)) from hp) (by simp), I.hok.kept old, by simp [di, aD]⟩
 · have hm : (y, NameKind.free) ∈ scope.names := by
    rcases hy with hy | hy
    · exact kf y _ hy (.inl rfl)
    · exact kf y _ hy (.inr rfl)
   exact Option.isSome_iff_exists.mp (cW _ _ hm)
 · have := hlt b hb
   rw [z] at this
   exact absurd (Nat.lt_of_lt_of_le this hC) (Nat.lt_irrefl _)
 · rcases (hfp b hb).2.2.2.1 with z | z
   · exact I.ok.noex b o e z
   · exact absurd (Nat.lt_of_lt_of_le (Heap.lt_size e) (Nat.le_trans I.ok.bsz z)) (Nat.lt_irrefl _)
 · rcases List.mem_cons.mp (I.stkSub b z) with q | q
   · exact (hfp b hb).2.1 q
   · exact (hfp b hb).2.2.1 q
 · obtain ⟨k, rfl, h4⟩ := er h2
   have h1' : (ns ++ cs.map (·.1))[ns.length + k]? = some y := h1
   rw [List.getElem?_append_right (by simp)] at h1'
   simp only [Nat.add_sub_cancel_left] at h1'
   rw [List.getElem?_map] at h1'
   cases hc : cs[k]? with
   | none => rw [hc] at h1'; simp at h1'
   | some c =>
    rw [hc] at h1'
    have ey : c.1 = y := by simpa using h1'
    subst ey
    rw [List.getElem?_map, hc] at h4
    simp only [Option.map_some, Option.some.injEq] at h4
    have h2' : σ[c.2]? = some (some v) := by
     cases q : σ[c.2]? with
     | none => rw [q] at h4; simp at h4
     | some o => rw [q] at h4; simp at h4; rw [h4]
    obtain ⟨hN, hf⟩ := ok.caps c (List.mem_of_getElem? hc)
    have hv := ok.free _ (a6 hf) rfl
    obtain ⟨mm, _, hl⟩ := I.loc
    obtain ⟨u, r, l⟩ := hl c.2 c.1 v hN h2' (.inr hv)
    refine ⟨u, r, .inr ⟨cg hf, ?_⟩⟩
    rcases l with ⟨l, _⟩ | ⟨_, a, ha, o, ho, hd⟩
    · have l' : X.env.scope.names.lookup c.1 = some .local := l
      rcases hv with z | z
      · rw [l'] at z; cases z
      · rw [l'] at z; cases z
    · obtain ⟨a', ha'⟩ := Option.isSome_iff_exists.mp (cW (env := X.env) scope.names [] (a6 hf))
      have e2 := cl1 _ _ ha'
      rw [ha] at e2
      cases e2
      exact ⟨a, ha', o, old _ _ ho, hd⟩
 · obtain ⟨v, o, ho, hd⟩ := I.cell y c (cl1 y c e)
   exact ⟨v, o, old _ _ ho, hd⟩
theorem dF {prog : Program} {w : World} {A : Around} {R : Result → Shared → Prop} {s : Shared} {elt target iter : Expr} {ifs : List Expr} {scope : Scope} {pos : Pos} {it acc : Value} {env : Env} (I : Nat → Shared → Prop)
 (turn : ∀ n s, I n s → wpAny (model prog w) A (pyNext it) (fun r s₁ => match r with
   | none => R (.ok .next) s₁
   | some v => wpAny (model prog w) A (letOwnedTupleGo target it v) (fun _ s₀ => wpAny (model prog w) A (assign target env v) (fun _ s₂ =>
    wpAny (model prog w) A (forIn ifs true fun c r => if r = true then do let ok ← isTrue c env (eval c env); pure (ForInStep.yield ok) else pure (ForInStep.yield r)) (fun ok s₃ =>
     if ok = true then wpAny (model prog w) A (eval elt env) (fun x s₄ =>
      wpAny (model prog w) A (call (.builtin "list.append") [acc, x]) (fun _ s₅ => ∃ m, m < n ∧ I m s₅) (notedBy (model prog w) A env fun e s' => R (.error e) s') s₄) (notedBy (model prog w) A env fun e s' => R (.error e) s') s₃
     else ∃ m, m < n ∧ I m s₃) (notedBy (model prog w) A env fun e s' => R (.error e) s') s₂) (notedBy (model prog w) A env fun e s' => R (.error e) s') s₀) (notedBy (model prog w) A env fun e s' => R (.error e) s') s₁) (notedBy (model prog w) A env fun e s' => R (.error e) s') s)
 (n : Nat) (h : I n s) :
 codeAny (model prog w) A (.compLoop (.ListComp elt [⟨target, iter, ifs, 0⟩] scope pos) 0 it acc env) R s := by
 refine codeAny_loop rfl I (fun n s hI => ?_) n h
 show wpAny _ A ((compTurn (.ListComp elt [⟨target, iter, ifs, 0⟩] scope pos) 0 it acc env).onRaise (fun x => do noteFrame x env; theTreesLotGoes x)) _ _ s
 refine wpAny_noted ?_
 rw [compTurn_list]
 refine wpAny_bind (wpAny_standAt (wpAny_bind (wpAny_mono (turn n s hI) (fun r s₁ h₁ => ?_) fun _ _ h' => h')))
 cases r with
 | none => exact wpAny_pure h₁
 | some v =>
  refine wpAny_bind (wpAny_mono h₁ (fun _ s₀ h₀ => ?_) fun _ _ h' => h')
  refine wpAny_bind (wpAny_mono h₀ (fun _ s₂ h₂ => wpAny_bind (wpAny_mono h₂ (fun ok s₃ h₃ => ?_) fun _ _ h' => h')) fun _ _ h' => h')
  cases ok with
  | false =>
   rw [if_neg Bool.false_ne_true] at h₃
   first
    | exact wpAny_bind (wpAny_pure (wpAny_pure ⟨rfl, h₃⟩))
    | exact wpAny_pure ⟨rfl, h₃⟩
    | (show wpAny _ _ (again _) _ _ _; exact wpAny_pure ⟨rfl, h₃⟩)
  | true =>
   rw [if_pos rfl] at h₃
   first
    | exact wpAny_bind (wpAny_bind (wpAny_mono h₃ (fun x s₄ h₄ => wpAny_bind (wpAny_mono h₄ (fun _ s₅ h₅ => wpAny_pure (wpAny_pure ⟨rfl, h₅⟩)) fun _ _ h' => h')) fun _ _ h' => h'))
    | exact wpAny_bind (wpAny_mono h₃ (fun x s₄ h₄ => wpAny_bind (wpAny_mono h₄ (fun _ s₅ h₅ => wpAny_pure ⟨rfl, h₅⟩) fun _ _ h' => h')) fun _ _ h' => h')
def uY (X : Cx) (ns : List Str) (cs : List (Str × Nat)) (scope : Scope) (D : Addr) (s2 : Shared) (H2 : Hp) (fp : List Addr) (tn : Nat → Heap → Prop) (ds ys : List Dv) (b : Dv → Ev → Option Ev) (tst : Option FnB) (fe : FnE) (ρ : Ev) (m : Nat) (s' : Shared) : Prop :=
 ∃ i σ' H' es vs its, m = ds.length - i ∧ i ≤ ds.length ∧ Inv (aD X (ns ++ cs.map (·.1)) scope (D + 1) s2 H2 fp) [] σ' H' s' ∧ Envs X.K H' σ' (br ns.length cs ρ) ∧ tn i s'.heap ∧ (∀ b ∈ fp, H' b = none) ∧ H' D = none ∧ LAt s'.heap D its ∧ Vals vs its ∧ Reps X.K H' es vs ∧ es.length ≤ i ∧ Same H2 H' ∧
  (match dO b tst fe (br ns.length cs ρ) (ds.drop i) with | some zs => es ++ zs = ys | none => False)
theorem gT {X : Cx} {pins : List (Addr × Obj)} {σ : L2.St} {tg elt iter : Expr} {ifs : List Expr} {scope : Scope} {pos : Pos} {ns : List Str} {tst : Option FnB} {fe : FnE} {b : Dv → Ev → Option Ev} {js : List Nat} (cs : List (Str × Nat)) (ok : eo X.env.scope scope cs X.N) (hc : X.calm = true)
 (htg : ∀ C s H fp, FG (aD X (ns ++ cs.map (·.1)) scope C s H fp) tg b) (helt : ∀ C s H fp, FE (aD X (ns ++ cs.map (·.1)) scope C s H fp) elt fe) (hifs : ∀ C s H fp, ju (aD X (ns ++ cs.map (·.1)) scope C s H fp) ifs tst)
 (hback : ∀ ρ d ρ', b d (br ns.length cs ρ) = some ρ' → fgt js ρ' = br ns.length cs ρ)
 {ρ : Ev} {s2 : Shared} {it : Addr} {fp : List Addr} {tn : Nat → Heap → Prop} {J : It} {H2 : Hp} (E : Envs X.K H2 σ ρ) (I2 : Inv X pins σ H2 s2) (T : pB X.prog X.w X.K tg J fp it tn) (st2 : tn 0 s2.heap) (f2 : ∀ b ∈ fp, jk X pins H2 b) {ds ys : List Dv} (wk : WkG X.K J ds H2) (hdl : ds.length ≤ 100000) (hyl : ys.length ≤ 100000) (hm : dO b tst fe (br ns.length cs ρ) ds = some ys)
 {RR : Value → Addr → Result → Shared → Prop}
 (hRR : ∀ (D C : Addr) (s6 : Shared) (H5 : Hp) (vs : List V) (m6 : Str → Option Value), Inv X pins σ (upd H5 D (.lst vs)) s6 → H5 D = none → Same H2 H5 → Reps X.K H5 ys vs → s6.heap.Ns C m6 → H5 C = none → C ≠ D → s2.heap.objs.size ≤ C → RR (.ref D) C (.ok .next) s6) :
 wpAny (model X.prog X.w) X.A (newList []) (fun acc s₃ => wpAny (model X.prog X.w) X.A (newFunctionEnv scope X.env.globals (cz scope.names X.env []) [] X.env.qual none .none (some X.env)) (fun cenv s₄ =>
  codeAny (model X.prog X.w) X.A (.compStart (.ListComp elt [⟨tg, iter, ifs, 0⟩] scope pos) 0 (.ref it) acc { cenv with scope := relabel scope X.env }) (RR acc cenv.locals) s₄) X.xe s₃) X.xe s2 := by
 have fplt : ∀ b ∈ fp, b < s2.heap.objs.size := fun b hb => by
  obtain ⟨o, ho, _⟩ := T.obj _ _ st2 b hb
  exact Heap.lt_size ho
 refine wpAny_newObj_type (wpAny_newFunctionEnv ok.cell (by intro y hy; simp at hy) (fun h₁ hns₁ hsb₁ => ?_) ok.kind)
 dsimp only at hns₁ hsb₁ ⊢
 generalize hH2 : s2.heap.push { cls := .type "list", dict := none, data := .seq ([] : List Value).toArray } = P2 at hns₁ hsb₁ ⊢
 obtain ⟨D, hD⟩ : ∃ D, s2.heap.objs.size = D := ⟨_, rfl⟩
 have hC : P2.objs.size = D + 1 := by rw [← hH2, Heap.size_push, hD]
 rw [hC] at hns₁ hsb₁
 rw [hC, hD]
 have old : ∀ b o, s2.heap.get? b = some o → h₁.get? b = some o := fun b o e => by
  have hb : b < D := by rw [← hD]; exact Heap.lt_size e
  exact hsb₁.extBut b o (ln hb) (Heap.get?_push_of_some _ (hH2 ▸ Heap.get?_push_of_some _ e))
 have hacc : LAt h₁ D [] := ⟨0, hsb₁.extBut _ _ uG (Heap.get?_push_of_some _ (by rw [← hH2, ← hD]; exact Heap.get?_push_size _ rfl))⟩
 have hns : h₁.Ns (D + 1) fun _ => none := by simpa using hns₁
 have I4 : Inv (aD X (ns ++ cs.map (·.1)) scope (D + 1) s2 H2 fp) [] (di ns.length cs σ) H2 { s2 with heap := h₁, toks := s2.toks + ([] : List (Str × Value)).length } := lz ok I2 f2 fplt (by rw [hD]; exact Nat.le_succ D) hns old
 have E4 : Envs X.K H2 (di ns.length cs σ) (br ns.length cs ρ) := gS ns.length cs E
 have HD : H2 D = none := I2.hok.fresh (Nat.le_of_eq hD)
 have fpD : ∀ b ∈ fp, b ≠ D := fun b hb => km (hD ▸ fplt b hb)
 have loop : ∀ s4 : Shared, s4 = { s2 with heap := h₁, toks := s2.toks + ([] : List (Str × Value)).length } →
  codeAny (model X.prog X.w) X.A (.compLoop (.ListComp elt [⟨tg, iter, ifs, 0⟩] scope pos) 0 (.ref it) (.ref D) (compEnvC scope (cz scope.names X.env []) (D + 1) X.env)) (RR (.ref D) (D + 1)) s4 := by
  rintro s4 rfl
  refine dF (fun k s' => uY X ns cs scope D s2 H2 fp tn ds ys b tst fe ρ k s') ?_ ds.length ⟨0, di ns.length cs σ, H2, [], [], [], by simp, Nat.zero_le _, I4, E4, T.keep _ _ _ st2 fun b hb o e => old b o e, fun b hb => (f2 b hb).1, HD, hacc, .nil, rfl, Nat.le_refl _, .refl H2, by rw [List.drop_zero, hm]; rfl⟩
  rintro k0 s5 ⟨i, σ5, H5, es, vs, its, rfl, hi5, I5, E5, t5, fr5, D5, l5, v5, r5, hel, e5, hz⟩
  have nC : ∀ b ∈ fp, b ≠ D + 1 := fun b hb => ln (hD ▸ fplt b hb)
  have DL : D ≠ (aD X (ns ++ cs.map (·.1)) scope (D + 1) s2 H2 fp).env.locals := uG
  have Dcell : ∀ y c, (aD X (ns ++ cs.map (·.1)) scope (D + 1) s2 H2 fp).env.cells.lookup y = some c → c ≠ D := fun y c e z => by
   obtain ⟨v, o, ho, hd⟩ := I5.cell y c e
   obtain ⟨n, q⟩ := l5
   subst z
   rw [q] at ho
   cases ho
   cases hd
  have Dfs : D ∉ (aD X (ns ++ cs.map (·.1)) scope (D + 1) s2 H2 fp).fs := fun z => by
   rcases List.mem_cons.mp (I2.stkSub D z) with q | q
   · have z2 := I2.lt
     rw [hD] at z2
     exact km z2 q.symm
   · exact I2.nofs (Nat.le_of_eq hD) q
  have Dp : jk (aD X (ns ++ cs.map (·.1)) scope (D + 1) s2 H2 fp) [] H5 D := ⟨D5, DL, Dfs, .inr (Nat.le_of_eq hD), Dcell, fun p hp => absurd (show p ∈ ([] : List (Addr × Obj)) from hp) (by simp)⟩
  have Dob : ∀ b ∈ [D], ∃ o, s5.heap.get? b = some o ∧ ∀ v, o.data ≠ .cell v := fun b hb => by
   have e : b = D := by simpa using hb
   subst e
   obtain ⟨n, q⟩ := l5
   exact ⟨_, q, fun v z => by cases z⟩
  have I5p : Inv (aD X (ns ++ cs.map (·.1)) scope (D + 1) s2 H2 fp) (aG [D] s5.heap) σ5 H5 s5 := by
   have q := I5.pinned (fp := [D]) (fun b hb => by
    have e : b = D := by simpa using hb
    subst e; exact Dp) Dob
   rw [List.nil_append] at q
   exact q
  have ner : ∀ b ∈ fp, ∀ p ∈ aG [D] s5.heap, p.1 ≠ b := fun b hb p hp z => by
   have e : p.1 = D := by simpa using (ce hp).1
   exact fpD b hb (z.symm.trans e)
  have fp5' : ∀ b ∈ fp, jk (aD X (ns ++ cs.map (·.1)) scope (D + 1) s2 H2 fp) (aG [D] s5.heap) H5 b := fun b hb => ⟨fr5 b hb, nC b hb, I4.ok.exfs b hb, .inl hb, (I4.ok.exf b hb).2, fun p hp => ner b hb p (by simpa [aD] using hp)⟩
  have lenR : vs.length = es.length := r5.length
  have lenV : vs.length = its.length := v5.length
  by_cases hlt : i < ds.length
  · refine thn (T.item (aD X (ns ++ cs.map (·.1)) scope (D + 1) s2 H2 fp) rfl rfl rfl hc i (aG [D] s5.heap) s5 σ5 H5 _ I5p fp5' t5 (wk.go i H5 e5 hlt)) fun r s6 ⟨u, hr, h6⟩ => ?_
    subst hr
    refine thn h6 fun _ s7 ⟨xv, H7, I7, r7, y7, t7, fr7⟩ => ?_
    obtain ⟨e57, d, hd, rd⟩ := wk.yld i H5 xv H7 e5 hlt y7
    rw [bM hd] at hz
    have I7p := I7.pinned (fp := fp) (fun b hb => ⟨fr7 b hb, nC b hb, I4.ok.exfs b hb, .inl hb, (I4.ok.exf b hb).2, fun p hp => ner b hb p (by simpa [aD] using hp)⟩) (T.obj _ _ t7)
    have fin : ∀ {σ8 : L2.St} {H8 : Hp} {s8 : Shared}, Inv (aD X (ns ++ cs.map (·.1)) scope (D + 1) s2 H2 fp) (aG [D] s5.heap ++ aG fp s7.heap) σ8 H8 s8 → tn (i + 1) s8.heap ∧ (∀ b ∈ fp, H8 b = none) ∧ H8 D = none ∧ LAt s8.heap D its := fun {σ8 H8 s8} I8 => by
     refine ⟨T.keep _ _ _ t7 fun b hb o e => (I8.pin (b, o) (List.mem_append_right _ (List.mem_append_right _ (aA hb e)))).1, fun b hb => ?_, ?_, ?_⟩
     · obtain ⟨o, e, _⟩ := T.obj _ _ t7 b hb
       exact (I8.pin (b, o) (List.mem_append_right _ (List.mem_append_right _ (aA hb e)))).2.1
     · obtain ⟨n, q⟩ := l5
       exact (I8.pin (D, _) (List.mem_append_right _ (List.mem_append_left _ (aA (by simp) q)))).2.1
     · obtain ⟨n, q⟩ := l5
       exact ⟨n, (I8.pin (D, _) (List.mem_append_right _ (List.mem_append_left _ (aA (by simp) q)))).1⟩
    unfold dO at hz
    match hb : b d (br ns.length cs ρ) with
    | none => rw [hb] at hz; exact hz.elim
    | some ρd =>
     rw [hb] at hz
     dsimp only at hz
     refine wpAny_mono ((htg (D + 1) s2 H2 fp).h _ s7 σ5 H7 xv u d (br ns.length cs ρ) ρd I7p r7 rd (E5.mono e57) hb) (fun _ s8 ⟨σ8, H8, I8, e78, E8⟩ => ?_) fun _ _ z => False.elim z
     have e58 := e57.trans e78
     have back : ∀ {σ9 : L2.St} {H9 : Hp}, Envs X.K H9 σ9 ρd → Envs X.K H9 σ9 (br ns.length cs ρ) := fun {σ9 H9} E9 => by
      have q := Envs.fgt js E9
      rw [hback ρ d ρd hb] at q
      exact q
     have took : ∀ {H9 : Hp} {s9 : Shared}, Inv (aD X (ns ++ cs.map (·.1)) scope (D + 1) s2 H2 fp) (aG [D] s5.heap ++ aG fp s7.heap) σ8 H9 s9 → Same H8 H9 →
      (match (match fe ρd with | some (.ok y) => (match dO b tst fe (br ns.length cs ρ) (ds.drop (i + 1)) with | some ys => some (y :: ys) | none => none) | _ => none) with | some zs => es ++ zs = ys | none => False) →
      wpAny (model X.prog X.w) X.A (eval elt (compEnvC scope (cz scope.names X.env []) (D + 1) X.env)) (fun xw s₄ =>
       wpAny (model X.prog X.w) X.A (call (.builtin "list.append") [.ref D, xw]) (fun _ s₅ => ∃ k, k < ds.length - i ∧ uY X ns cs scope D s2 H2 fp tn ds ys b tst fe ρ k s₅) (notedBy (model X.prog X.w) X.A (compEnvC scope (cz scope.names X.env []) (D + 1) X.env) fun e s' => RR (.ref D) (D + 1) (.error e) s') s₄) (notedBy (model X.prog X.w) X.A (compEnvC scope (cz scope.names X.env []) (D + 1) X.env) fun e s' => RR (.ref D) (D + 1) (.error e) s') s9 := fun {H9 s9} I9 e9 hz9 => by
      match hfe : fe ρd, hz9 with
      | none, hz9 => exact hz9.elim
      | some (.exc c), hz9 => exact hz9.elim
      | some (.ok y), hz9 =>
       refine wpAny_mono ((helt (D + 1) s2 H2 fp).h _ s9 σ8 H9 (fun v H10 => Same H9 H10 ∧ Rep X.K H10 y v) I9 ⟨ρd, E8.mono e9, by rw [hfe]; exact fun v H10 e10 r10 => ⟨e10, r10⟩⟩) (fun w s10 ⟨yv, H10, I10, rw10, e10, r10⟩ => ?_) fun _ _ z => False.elim z
       obtain ⟨t10, fr10, D10, l10⟩ := fin I10
       refine fm l10 (by omega) fun h11 l11 k11 => ?_
       have I10' : Inv (aD X (ns ++ cs.map (·.1)) scope (D + 1) s2 H2 fp) (aG fp s7.heap) σ8 H10 s10 := I10.pins_of fun p hp => I10.pin p (List.mem_append_right _ (List.mem_append_right _ hp))
       have I11 : Inv (aD X (ns ++ cs.map (·.1)) scope (D + 1) s2 H2 fp) (aG fp s7.heap) σ8 H10 { s10 with heap := h11 } := I10'.turned (t' := s10.toks) k11 D10 DL (.inr (Nat.le_of_eq hD)) Dcell fun p hp z => by
        have hp' : p ∈ aG fp s7.heap := by simpa [aD] using hp
        exact fpD p.1 (ce hp').1 z
       have e80 := e9.trans e10
       refine ⟨ds.length - (i + 1), by omega, i + 1, σ8, H10, es ++ [y], vs ++ [yv], its ++ [w], rfl, hlt, I11.pins_of fun p hp => absurd hp (by simp), back (E8.mono e80), T.keep _ _ _ t10 fun b hb o e => k11 b o (fpD b hb) e, fr10, D10, l11, v5.append (.cons rw10 .nil), (Reps.mono (e58.trans e80) _ _ r5).append ⟨yv, [], rfl, r10, rfl⟩, by rw [List.length_append, List.length_singleton]; omega, e5.trans (e58.trans e80), ?_⟩
       match hm2 : dO b tst fe (br ns.length cs ρ) (ds.drop (i + 1)), hz9 with
       | none, hz9 => exact hz9.elim
       | some zs, hz9 => dsimp only at hz9 ⊢; rw [List.append_assoc]; exact hz9
     have hif := hifs (D + 1) s2 H2 fp
     cases tst with
     | none =>
      cases (show ifs = [] from hif)
      exact wpAny_tests_nil (by rw [if_pos rfl]; exact took I8 (.refl H8) hz)
     | some t =>
      obtain ⟨c, rfl, hct⟩ := hif
      match htt : t ρd, hz with
      | none, hz => simp only [htt] at hz
      | some (.exc c), hz => simp only [htt] at hz
      | some (.ok true), hz =>
       simp only [htt] at hz
       refine wpAny_tests_one (wpAny_mono (hct.h _ s8 σ8 H8 (fun b H9 => b = true ∧ Same H8 H9) I8 ⟨_, E8, by rw [htt]; exact fun H9 e9 => ⟨rfl, e9⟩⟩) (fun b s9 ⟨H9, I9, hb, e9⟩ => ?_) fun _ _ z => False.elim z)
       subst hb
       rw [if_pos rfl]
       exact took I9 e9 hz
      | some (.ok false), hz =>
       simp only [htt] at hz
       refine wpAny_tests_one (wpAny_mono (hct.h _ s8 σ8 H8 (fun b H9 => b = false ∧ Same H8 H9) I8 ⟨_, E8, by rw [htt]; exact fun H9 e9 => ⟨rfl, e9⟩⟩) (fun b s9 ⟨H9, I9, hb, e9⟩ => ?_) fun _ _ z => False.elim z)
       subst hb
       rw [if_neg Bool.false_ne_true]
       obtain ⟨t9, fr9, D9, l9⟩ := fin I9
       exact ⟨ds.length - (i + 1), by omega, i + 1, σ8, H9, es, vs, its, rfl, hlt, I9.pins_of fun p hp => absurd hp (by simp), back (E8.mono e9), t9, fr9, D9, l9, v5, Reps.mono (e58.trans e9) _ _ r5, by omega, e5.trans (e58.trans e9), hz⟩
  · have hi' : i = ds.length := by omega
    subst hi'
    rw [List.drop_length] at hz
    have hz' : es ++ [] = ys := hz
    rw [List.append_nil] at hz'
    subst hz'
    refine thn (T.done (aD X (ns ++ cs.map (·.1)) scope (D + 1) s2 H2 fp) rfl rfl rfl hc ds.length (aG [D] s5.heap) s5 σ5 H5 _ I5p fp5' t5 (wk.stop H5 e5)) fun r s6 ⟨hr, I6⟩ => ?_
    subst hr
    have l6 : LAt s6.heap D its := by
     obtain ⟨n, q⟩ := l5
     exact ⟨n, (I6.pin (D, _) (List.mem_append_right _ (aA (by simp) q))).1⟩
    obtain ⟨m6, n6, _⟩ := I6.loc
    have C6 : H5 (D + 1) = none := I6.free
    have new : ObjOk X.prog X.w (upd H5 D (.lst vs)) s6.heap D (.lst vs) := by
     obtain ⟨n, q⟩ := l6
     exact ⟨by rw [lenR]; exact aI hyl, its, n, v5, q⟩
    have u6 : Un (frs X.stack) fp H2 H5 s2.heap s6.heap := I6.base
    have nD : ∀ b o, s2.heap.get? b = some o → b ≠ D := fun b o e => by
     have hb : b < D := by rw [← hD]; exact Heap.lt_size e
     exact km hb
    have u7 : Un (frs X.stack) fp H2 (upd H5 D (.lst vs)) s2.heap s6.heap := ⟨u6.keep, u6.slot, fun b o e n hx => by rw [ak (nD b o e)]; exact u6.free b o e n hx, u6.there, fun b xs q => by
     have q' := u6.tups b xs q
     rw [ak (aj q' D5)]; exact q', fun b o u q => by
     have q' := u6.frzs b o u q
     rw [ak (aj q' D5)]; exact q', fun b ps q => by
     obtain ⟨more, q'⟩ := u6.tbls b ps q
     exact ⟨more, by rw [ak (aj q' D5)]; exact q'⟩⟩
    have I7 : Inv X pins σ (upd H5 D (.lst vs)) s6 := I2.call' (s' := s6) (ch := fp) I6.os u7 (HOk.add I6.hok D5 C6 (fun b u _ q => q) new) I6.bare fun b hb => ⟨(f2 b hb).2.2.2.1, (f2 b hb).2.1, (f2 b hb).2.2.2.2.1, (f2 b hb).2.2.2.2.2⟩
    exact hRR D (D + 1) s6 H5 vs m6 I7 D5 e5 r5 n6 C6 (Ne.symm uG) (by rw [hD]; exact Nat.le_succ D)
 exact codeAny_compStart_list (loop _ rfl) (T.self _ 0 _ _ _ (T.keep _ _ _ st2 fun b hb o e => old b o e) (loop _ rfl))
def aP (m : Nat) (cs : List (Str × Nat)) (src : FnA) (b : Dv → Ev → Option Ev) (tst : Option FnB) (elt : FnE) : FnE := fun ρ => bnd (src ρ) fun ds => match dO b tst elt (br m cs ρ) ds with
 | some ys => if ys.length ≤ 100000 ∧ ds.length ≤ 100000 then some (.ok (.lst ys)) else none
 | none => none
theorem uZ {m : Nat} {cs : List (Str × Nat)} {src : FnA} {b : Dv → Ev → Option Ev} {tst : Option FnB} {fe : FnE} {ρ : Ev} {o : Rs Dv} (h : aP m cs src b tst fe ρ = some o) :
 (∃ c, src ρ = some (.exc c) ∧ o = .exc c) ∨ ∃ ds ys, src ρ = some (.ok ds) ∧ dO b tst fe (br m cs ρ) ds = some ys ∧ ds.length ≤ 100000 ∧ ys.length ≤ 100000 ∧ o = .ok (.lst ys) := by
 unfold aP at h
 match hf : src ρ with
 | none => rw [hf] at h; cases h
 | some (.exc c) => rw [hf] at h; cases h; exact .inl ⟨c, rfl, rfl⟩
 | some (.ok ds) =>
  rw [hf] at h
  dsimp only [bnd] at h
  match hm : dO b tst fe (br m cs ρ) ds with
  | none => rw [hm] at h; cases h
  | some ys =>
   rw [hm] at h
   dsimp only at h
   split at h
   · rename_i hl
     cases h
     exact .inr ⟨ds, ys, rfl, hm, hl.2, hl.1, rfl⟩
   · cases h
theorem oi {X : Cx} {tg elt iter : Expr} {ifs : List Expr} {scope : Scope} {pos : Pos} {src : FnA} {tst : Option FnB} {fe : FnE} {b : Dv → Ev → Option Ev} (osc : Scope) (N ns : List Str) (js : List Nat) (cs : List (Str × Nat)) (hosc : X.env.scope = osc) (hN : X.N = N) (ok : eo osc scope cs N) (hcl : closureFor scope X.env = pure (cz scope.names X.env [])) (hc : X.calm = true)
 (hback : ∀ ρ d ρ', b d (br ns.length cs ρ) = some ρ' → fgt js ρ' = br ns.length cs ρ)
 (hi : FIG X tg iter src) (htg : ∀ C s H fp, FG (aD X (ns ++ cs.map (·.1)) scope C s H fp) tg b) (helt : ∀ C s H fp, FE (aD X (ns ++ cs.map (·.1)) scope C s H fp) elt fe) (hifs : ∀ C s H fp, ju (aD X (ns ++ cs.map (·.1)) scope C s H fp) ifs tst)
 (hs : ∀ x, foldedSetIterable iter X.env x = pure x := by intro _; kernel_rfl) : FE X (.ListComp elt [⟨tg, iter, ifs, 0⟩] scope pos) (aP ns.length cs src b tst fe) := by
 subst hosc hN
 constructor
 intro pins s σ H Q I h
 obtain ⟨ρ, E, o⟩ := h
 match ho : aP ns.length cs src b tst fe ρ with
 | none => rw [ho] at o; exact o.elim
 | some r =>
  rw [ho] at o
  rw [eval_ListComp]
  have key : OutG X H (src ρ) fun J H' => ∃ ds ys, Same H H' ∧ WkG X.K J ds H' ∧ ds.length ≤ 100000 ∧ ys.length ≤ 100000 ∧ dO b tst fe (br ns.length cs ρ) ds = some ys ∧ (∀ v H'', Same H' H'' → Rep X.K H'' (.lst ys) v → Q v H'') := by
   rcases uZ ho with ⟨c, e1, e2⟩ | ⟨ds, ys, e1, e2, l1, l2, e3⟩
   · subst e2; rw [e1]; exact o
   · subst e3; rw [e1]; exact fun J H' e wk => ⟨ds, ys, e, wk, l1, l2, e2, fun v H'' e2 r => o v H'' (e.trans e2) r⟩
  refine wpAny_comprehension_free (use := none) rfl hs hcl ok.kind ok.names (thn (hi.h pins s σ H _ I ⟨ρ, E, key⟩) fun v s1 h1 => thn h1 fun itv s2 h2 => ?_)
  obtain ⟨it, fp, tn, J, H2, e, I2, T, st2, f2, ds, ys, e12, wk, hdl, hyl, hm, hQ⟩ := h2
  subst e
  refine gT cs ok hc htg helt hifs hback (E.mono e12) I2 T st2 f2 wk hdl hyl hm (RR := fun acc C => compPost (model X.prog X.w) X.A X.xe none (EP X pins σ Q) acc C) fun D C s6 H5 vs m6 I6 D5 e5 r5 n6 C6 CD hC => ?_
  refine ⟨m6, n6, fun h7 sb7 => ?_⟩
  have Cn : (upd H5 D (.lst vs)) C = none := by rw [ak CD]; exact C6
  obtain ⟨q0, q1, q2, q3, q4, q5⟩ := I2.fpOk hC Cn
  have I7 : Inv X pins σ (upd H5 D (.lst vs)) { s6 with heap := h7 } := I6.turned (t' := s6.toks) (fun b o hb e => sb7.extBut b o hb e) q0 q1 q3 q4 q5
  exact ⟨.ref D, _, I7, rfl, hQ _ _ (e5.trans (ao D5 _)) ⟨D, vs, rfl, am, Reps.mono (ao D5 _) _ _ r5⟩⟩
theorem oj (cs : List (Str × Nat)) (ρ : Ev) (d : Dv) (ρ' : Ev) (h : gN 0 d (br 1 cs ρ) = some ρ') : fgt [0] ρ' = br 1 cs ρ := by
 cases h
 rfl
theorem yp (cs : List (Str × Nat)) (ρ : Ev) (d : Dv) (ρ' : Ev) (h : gP 0 1 d (br 2 cs ρ) = some ρ') : fgt [0, 1] ρ' = br 2 cs ρ := by
 unfold gP at h
 split at h
 · cases h
   rfl
 · cases h
section
variable {X : Cx} {pos p1 : Pos}
end
theorem az {a b : FnS} {ρ ρ' : Ev} (h : a ρ = some (.nx ρ')) : aT a b ρ = b ρ' := by
 unfold aT; rw [h]; rfl
theorem cA {c : FnB} {f : FnS} {ρ : Ev} (h : c ρ = some (.ok false)) : bL c f (fun ρ => some (.nx ρ)) ρ = some (.nx ρ) := by
 unfold bL; rw [h]; rfl
theorem aJ {i : Nat} {v : FnE} {ρ ρ' : Ev} {d : Dv} (h : v ρ = some (.ok d)) (e : ρ.set i (some d) = ρ') : bZ i v ρ = some (.nx ρ') := by
 unfold bZ; rw [h, ← e]; rfl
theorem bw {v : FnE} {ρ : Ev} {d : Dv} (h : v ρ = some (.ok d)) : bD v ρ = some (.rt d) := by
 unfold bD; rw [h]; rfl
theorem iG {i : Nat} {js : List Nat} {src : FnA} {body : FnS} {ρ : Ev} {ds : List Dv} (h : src ρ = some (.ok ds)) : ll i js src body ρ = cV i js body ds ρ := by
 unfold ll; rw [h]; rfl
theorem yq {a b : FnB} {ρ : Ev} (h : a ρ = some (.ok false)) : bOr a b ρ = b ρ := by unfold bOr; rw [h]; rfl
theorem u0 {a b : FnB} {ρ : Ev} (h : a ρ = some (.ok true)) : bOr a b ρ = some (.ok true) := by unfold bOr; rw [h]; rfl
theorem u8 {a b : FnB} {ρ : Ev} (h : a ρ = some (.ok true)) : gJ a b ρ = b ρ := by unfold gJ; rw [h]; rfl
theorem u9 {a b : FnB} {ρ : Ev} (h : a ρ = some (.ok false)) : gJ a b ρ = some (.ok false) := by unfold gJ; rw [h]; rfl
theorem dj {a : FnB} {ρ : Ev} {k : Bool} (h : a ρ = some (.ok k)) : eQ a ρ = some (.ok (!k)) := by unfold eQ; rw [h]; rfl
theorem aK {f : FnE} {ρ : Ev} {k : Bool} (h : f ρ = some (.ok (.bl k))) : fB f ρ = some (.ok k) := by unfold fB; rw [h]; rfl
theorem aq {g : Dv → Dv → Option (Rs Dv)} {f h : FnE} {ρ : Ev} {x y : Dv} (hf : f ρ = some (.ok x)) (hh : h ρ = some (.ok y)) : f2 g f h ρ = g x y := by unfold f2; rw [hf, hh]; rfl
theorem et {i : Nat} {ρ : Ev} {d : Dv} (h : ρ[i]? = some (some d)) : ae i ρ = some (.ok d) := by unfold ae; rw [h]
theorem ac {f : FnE} {g : FnA} {ρ : Ev} {x : Dv} {xs : List Dv} (h : f ρ = some (.ok x)) (t : g ρ = some (.ok xs)) : aa f g ρ = some (.ok (x :: xs)) := by unfold aa; rw [h, t]; rfl
theorem ai {ρ : Ev} : al ρ = some (.ok []) := rfl
theorem bb {F : List Dv → Option (Rs Dv)} {n : Nat} {g : FnA} {ρ : Ev} {ds : List Dv} {d : Dv} (h : g ρ = some (.ok ds)) (hl : ds.length = n) (hF : F ds = some (.ok d)) : ay F n g ρ = some (.ok d) := by
 unfold ay; rw [h]
 show (if _ then _ else _) = _
 rw [if_pos hl, hF]
theorem ci (F : List Dv → Option (Rs Dv)) {f : FnE} {ρ : Ev} {a d : Dv} (h : f ρ = some (.ok a)) (hF : F [a] = some (.ok d)) : ay F 1 (aa f al) ρ = some (.ok d) := bb (ac h ai) rfl hF
theorem dk {g : FnA} {ρ : Ev} {ds : List Dv} (h : g ρ = some (.ok ds)) (hl : ds.length ≤ 100000) : cU g ρ = some (.ok (.tup ds)) := by
 unfold cU; rw [h]
 show (if _ then _ else _) = _
 rw [if_pos hl]
theorem vb {f g : FnE} {ρ : Ev} (h : f ρ = some (.ok (.bl false))) : kB f g ρ = some (.ok (.bl false)) := by unfold kB; rw [h]; rfl
theorem vd {f g : FnE} {ρ : Ev} (h : f ρ = some (.ok (.bl true))) : kB f g ρ = g ρ := by unfold kB; rw [h]; rfl
theorem bx {g : List Dv → Option (Rs Dv)} {a : FnA} {ρ : Ev} {ds : List Dv} (h : a ρ = some (.ok ds)) : fB1 g a ρ = g ds := by unfold fB1; rw [h]; rfl
theorem lC {g : FnA} {ρ : Ev} {ds : List Dv} (h : g ρ = some (.ok ds)) (hl : ds.length ≤ 100000) : gx g ρ = some (.ok (.lst ds)) := by
 unfold gx; rw [h]
 show (if _ then _ else _) = _
 rw [if_pos hl]
theorem bO {n : Nat} {B : FnS} {ds : List Dv} {d : Dv} (h : B (ds.map some ++ List.replicate (n - ds.length) none) = some (.rt d)) : dD n B ds = some (.ok d) := by
 unfold dD; rw [h]
section
variable {prog : Program} {w : World} {A : Around} {E : Value → Shared → Prop}
end
section
variable {X : Cx} {pos p1 : Pos}
end
structure Aft (X : Cx) (e : Addr) (Ts : List Addr) (h h' : Heap) : Prop where
 keep : ∀ b o, h.get? b = some o → b ≠ e → b ∉ Ts → b ∉ frs X.stack → h'.get? b = some o
 slot : ∀ b o, h.get? b = some o → b ∈ frs X.stack → ∃ sl, h'.get? b = some { o with slots := sl }
section
variable {X : Cx} {pins : List (Addr × Obj)} {σ : L2.St} {H : Hp} {s : Shared} {e : Addr} {Ts : List Addr} {h' : Heap}
theorem Aft.any {h : Heap} (A : Aft X e Ts h h') {b : Addr} {o : Obj} (q : h.get? b = some o) (n1 : b ≠ e) (n2 : b ∉ Ts) : ∃ sl, h'.get? b = some { o with slots := sl } := by
 by_cases hb : b ∈ frs X.stack
 · exact A.slot b o q hb
 · exact ⟨o.slots, A.keep b o q n1 n2 hb⟩
theorem Inv.aft (I : Inv X pins σ H s) (A : Aft X e Ts s.heap h') (hex : X.ex = []) (hf : ∀ b, b = e ∨ b ∈ Ts → H b = none ∧ X.s₀.heap.get? b = none ∧ (∀ p ∈ X.pn ++ pins, p.1 ≠ b) ∧ ∃ o vs, s.heap.get? b = some o ∧ o.data = .fields vs) :
 Inv X pins σ H { s with heap := h' } := by
 have nE : ∀ b, H b ≠ none → b ≠ e ∧ b ∉ Ts := fun b hb => ⟨fun z => hb (hf b (.inl z)).1, fun z => hb (hf b (.inr z)).1⟩
 have n0 : ∀ b o, X.s₀.heap.get? b = some o → b ≠ e ∧ b ∉ Ts := fun b o hb => ⟨fun z => (by simp : (some o : Option Obj) ≠ none) (hb.symm.trans (hf b (.inl z)).2.1), fun z => (by simp : (some o : Option Obj) ≠ none) (hb.symm.trans (hf b (.inr z)).2.1)⟩
 have nx : ∀ b, b ∉ X.ex := fun b => by rw [hex]; simp
 have nD : ∀ b o, s.heap.get? b = some o → (∀ vs, o.data ≠ .fields vs) → b ≠ e ∧ b ∉ Ts := fun b o hb hd =>
  have go : (b = e ∨ b ∈ Ts) → False := fun z => by
   obtain ⟨o', vs, q, d⟩ := (hf b z).2.2.2
   rw [hb] at q
   cases q
   exact hd vs d
  ⟨fun z => go (.inl z), fun z => go (.inr z)⟩
 have nS : ∀ b ∈ frs X.stack, H b = none := I.stkFree
 have cellK : ∀ c v, s.heap.IsCell c v → h'.IsCell c v := fun c v ⟨o, ho, hd⟩ => by
  obtain ⟨n1, n2⟩ := nD c o ho fun vs q => by rw [hd] at q; cases q
  obtain ⟨sl, q⟩ := A.any ho n1 n2
  exact ⟨_, q, hd⟩
 refine ⟨I.ok, I.os, I.bare, ⟨fun b o q n hb hx => ?_, fun b o q n hb hx => ?_, I.base.free, fun b o q hx => ?_, I.base.tups, I.base.frzs, I.base.tbls⟩, ?_, fun x c q => ?_, I.free, I.freeC, fun p hp => ?_, fun a o q => ?_, I.len⟩
 · have h1 := I.base.keep b o q n hb hx
   obtain ⟨n1, n2⟩ := n0 b o q
   refine A.keep b o h1 n1 n2 fun z => ?_
   rcases List.mem_cons.mp (I.stkSub b z) with z | z
   · exact absurd z (Nat.ne_of_lt (Nat.lt_of_lt_of_le (Heap.lt_size q) I.ok.above))
   · exact hb z
 · obtain ⟨sl, h1⟩ := I.base.slot b o q n hb hx
   obtain ⟨n1, n2⟩ := n0 b o q
   obtain ⟨sl', h2⟩ := A.any h1 n1 n2
   exact ⟨sl', h2⟩
 · obtain ⟨o', h1⟩ := I.base.there b o q hx
   obtain ⟨n1, n2⟩ := n0 b o q
   obtain ⟨sl, h2⟩ := A.any h1 n1 n2
   exact ⟨_, h2⟩
 · obtain ⟨m, ⟨o, es, ep, ho, hd, r⟩, hl⟩ := I.loc
   obtain ⟨n1, n2⟩ := nD _ o ho fun vs q => by rw [hd] at q; cases q
   obtain ⟨sl, q⟩ := A.any ho n1 n2
   refine ⟨m, ⟨_, es, ep, q, hd, r⟩, fun i x v e1 e2 e3 => ?_⟩
   obtain ⟨u, ru, l⟩ := hl i x v e1 e2 e3
   refine ⟨u, ru, ?_⟩
   rcases l with l | ⟨k, c, ec, z⟩
   · exact .inl l
   · exact .inr ⟨k, c, ec, cellK c _ z⟩
 · obtain ⟨v, z⟩ := I.cell x c q
   exact ⟨v, cellK c v z⟩
 · obtain ⟨q, n, ne, nf, d⟩ := I.pin p hp
   have n1 : p.1 ≠ e := (hf e (.inl rfl)).2.2.1 p hp
   have n2 : p.1 ∉ Ts := fun z => (hf p.1 (.inr z)).2.2.1 p hp rfl
   refine ⟨A.keep p.1 p.2 q n1 n2 fun z => ?_, n, ne, nf, d⟩
   rcases List.mem_cons.mp (I.stkSub _ z) with z | z
   · exact ne z
   · exact nf z
 · refine (I.hok a o q).stay (fun b u hb hu => ?_) (fun _ z => z) fun _ _ z => z
   have hn : H b ≠ none := by
    rcases hb with rfl | hb
    · rw [q]; simp
    · rw [hb]; simp
   exact A.keep b u hu (nE b hn).1 (nE b hn).2 fun z => hn (nS b z)
abbrev hid (X : Cx) (e : Addr) (Ts : List Addr) (h : Heap) : Heap := PySem.W.hideAll h (e :: (Ts ++ frs X.stack))
theorem jy (I : Inv X pins σ H s) (k : (hid X e Ts s.heap).StaysIn h') (u : ∀ b o, s.heap.get? b = some o → (∀ vs, o.data ≠ .fields vs) → ∃ sl, h'.get? b = some { o with slots := sl }) : Aft X e Ts s.heap h' :=
 ⟨fun b o q n1 n2 n3 => k b o (PySem.W.hideAll_get _ q (by simp only [List.mem_cons, List.mem_append]; rintro (z | z | z); exact n1 z; exact n2 z; exact n3 z)), fun b o q hb => by
  obtain ⟨_, o', q', d⟩ := I.stack.mem hb
  rw [q] at q'
  cases q'
  exact u b o q d⟩
theorem fX (I : Inv X pins σ H s) : s.heap.FunFrames (hid X e Ts s.heap) X.stack :=
 PySem.W.funFrames_hide I.stack fun env he a hfa => List.mem_cons_of_mem _ (List.mem_append_right _ (List.mem_filterMap.mpr ⟨env, he, hfa⟩))
end
section
variable {X : Cx} {pins : List (Addr × Obj)} {σ : L2.St} {H : Hp} {s : Shared} {e : Addr} {cls : Value}
theorem Fly.imp {N N' : Addr → Prop} {h : Heap} (F : Fly N H e cls h) (k : ∀ a, N a → N' a) : Fly N' H e cls h := by
 obtain ⟨h1, h2, oe, vs, a0, q1, q2, q3, q4, q5⟩ := F
 refine ⟨h1, k _ h2, oe, vs, a0, q1, q2, q3, q4, ?_⟩
 rcases q5 with q5 | ⟨T, oT, ts, r1, r2, r3, r4, r5⟩
 · exact .inl q5
 · exact .inr ⟨T, oT, ts, r1, r2, r3, k _ r4, r5⟩
theorem pV {h' : Heap} {Ts : List Addr} (I : Inv X pins σ H s) (hex : X.ex = []) (he : H e = none ∧ X.s₀.heap.get? e = none) (hT : ∀ T ∈ Ts, H T = none ∧ X.s₀.heap.get? T = none) (ff : h'.FunFrames (hid X e Ts s.heap) X.stack)
 {T : Addr} {oT : Obj} {ts : Array Value} (hn : (hid X e Ts s.heap).get? T = none) (ne : T ≠ e) (hg : h'.get? T = some oT) (hd : oT.data = .fields ts) : H T = none ∧ X.s₀.heap.get? T = none := by
 have nf : T ∉ frs X.stack := fun z => by
  obtain ⟨_, o, q, d⟩ := ff.mem z
  rw [hg] at q
  cases q
  exact d ts hd
 have out : T ∈ Ts ∨ s.heap.get? T = none := by
  cases q : s.heap.get? T with
  | none => exact .inr rfl
  | some o =>
   by_cases hm : T ∈ Ts
   · exact .inl hm
   · have := PySem.W.hideAll_get (e :: (Ts ++ frs X.stack)) q (by simp only [List.mem_cons, List.mem_append]; rintro (z | z | z); exact ne z; exact hm z; exact nf z)
     rw [hn] at this
     cases this
 rcases out with hm | hm
 · exact hT T hm
 · constructor
   · cases q : H T with
     | none => rfl
     | some u =>
      have hk := I.hok T u q
      exfalso
      have : ∃ o, s.heap.get? T = some o := by
       clear q
       induction u with
       | lst xs => obtain ⟨_, _, _, _, z⟩ := hk; exact ⟨_, z⟩
       | tup xs => obtain ⟨_, _, _, o, z, _⟩ := hk; exact ⟨_, z⟩
       | dK kvs => obtain ⟨_, _, _, _, o, _, _, z, _⟩ := hk; exact ⟨_, z⟩
       | dT kvs => obtain ⟨_, _, _, _, o, _, _, z, _⟩ := hk; exact ⟨_, z⟩
       | set S n => obtain ⟨o, _, _, _, z, _⟩ := hk; exact ⟨_, z⟩
       | ins C dx fs => obtain ⟨_, _, _, z, _⟩ := hk; exact ⟨_, z⟩
       | own y => obtain ⟨_, z⟩ := hk; exact ⟨_, z⟩
       | xd fs => obtain ⟨_, ⟨_, _, _, z, _⟩, _⟩ := hk; exact ⟨_, z⟩
       | rng lo hi => obtain ⟨_, _, _, z⟩ := hk; exact ⟨_, z⟩
       | frz ob u ih => obtain ⟨z, _⟩ := hk; exact ⟨_, z⟩
       | tbl ps => obtain ⟨_, z, _⟩ := hk; exact ⟨_, z⟩
       | met f y => exact ⟨_, (show s.heap.get? T = some _ from hk)⟩
       | ext φ => obtain ⟨_, ⟨_, z⟩, _⟩ := hk; exact ⟨_, z⟩
      obtain ⟨o, z⟩ := this
      rw [hm] at z
      cases z
   · cases q : X.s₀.heap.get? T with
     | none => rfl
     | some o =>
      obtain ⟨o', z⟩ := I.base.there T o q (by rw [hex]; simp)
      rw [hm] at z
      cases z
theorem lD (I : Inv X pins σ H s) (hex : X.ex = []) (hst : X.stack = X.env :: X.outer) (hfm : X.env.frame = some X.env.locals) (F : Fly (fun a => X.s₀.heap.get? a = none) H e cls s.heap)
 {Q : Unit → Shared → Prop} {E : Value → Shared → Prop} (k : ∀ h' Ts, Fly (fun a => X.s₀.heap.get? a = none) H e cls h' → Aft X e Ts s.heap h' → (∀ b, b = e ∨ b ∈ Ts → H b = none ∧ X.s₀.heap.get? b = none ∧ ∃ o vs, s.heap.get? b = some o ∧ o.data = .fields vs) → Q () { s with heap := h' }) :
 wpAny (model X.prog X.w) X.A (leaving X.env (.ref e)) Q E s := by
 obtain ⟨f1, f2, oe, vs, a0, q1, q2, q3, q4, q5⟩ := F
 have hfr : X.A.frames = some (X.env :: X.outer) := hst ▸ I.ok.frames
 subst q2
 rcases q5 with q5 | ⟨T, oT, ts, r1, r2, r3, r4, r5, r6, r7⟩
 · have b3 : s.heap.FunFrames (hid X e [] s.heap) (X.env :: X.outer) := hst ▸ fX I
   refine wpAny_leaving_firstW (base := hid X e [] s.heap) hfr b3 hfm q1 (fun b o z => PySem.W.of_hideAll _ z) (PySem.W.hideAll_none _ (List.mem_cons_self ..)) q3 q5 q4 fun h' hL => ?_
   obtain ⟨k1, k2, ⟨oe', vs', T, oT, ts, t1, ⟨t2, t3⟩, t4, t5, t6, t7, t8, t9, t10⟩, k4⟩ := hL
   have k2' : h'.FunFrames (hid X e [] s.heap) X.stack := hst ▸ k2
   have nT := pV I hex ⟨f1, f2⟩ (fun _ z => absurd z (by simp)) k2' t6 t7 t8 t9
   refine k h' [] ⟨f1, f2, oe', vs', a0, t1, t2, t4, t3, .inr ⟨T, oT, ts, t5, t7, nT.1, nT.2, t8, t9, t10⟩⟩ (jy I k1 k4) fun b hb => ?_
   rcases hb with rfl | hb
   · exact ⟨f1, f2, oe, vs, q1, q3⟩
   · cases hb
 · have b3 : s.heap.FunFrames (hid X e [T] s.heap) (X.env :: X.outer) := hst ▸ fX I
   have ht : s.heap.TracedW (hid X e [T] s.heap) e oe.cls a0 := ⟨oe, vs, T, oT, ts, q1, ⟨rfl, q4⟩, q3, r1, PySem.W.hideAll_none _ (by simp), r2, r5, r6, r7⟩
   refine wpAny_leaving_nextW (base := hid X e [T] s.heap) hfr b3 hfm ht (fun b o z => PySem.W.of_hideAll _ z) (PySem.W.hideAll_none _ (List.mem_cons_self ..)) fun h' hL => ?_
   obtain ⟨k1, k2, ⟨oe', vs', T', oT', ts', t1, ⟨t2, t3⟩, t4, t5, t6, t7, t8, t9, t10⟩, k4⟩ := hL
   have k2' : h'.FunFrames (hid X e [T] s.heap) X.stack := hst ▸ k2
   have nT := pV I hex ⟨f1, f2⟩ (fun T0 z => by simp at z; subst z; exact ⟨r3, r4⟩) k2' t6 t7 t8 t9
   refine k h' [T] ⟨f1, f2, oe', vs', a0, t1, t2, t4, t3, .inr ⟨T', oT', ts', t5, t7, nT.1, nT.2, t8, t9, t10⟩⟩ (jy I k1 k4) fun b hb => ?_
   rcases hb with rfl | hb
   · exact ⟨f1, f2, oe, vs, q1, q3⟩
   · simp at hb
     subst hb
     exact ⟨r3, r4, oT, ts, r5, r6⟩
end
def CXE (P : Program) (w : World) : CXT := fun outer H s E ev s' => ∃ e cls H', ev = .ref e ∧ s'.os = s.os ∧ AllBare s'.gens ∧ Un (frs outer) [] H H' s.heap s'.heap ∧ HOk P w H' s'.heap ∧ Fly (fun a => s.heap.get? a = none) H' e cls s'.heap ∧ E cls none H'
def spE (K : PySem.W.Frag) (F : List Dv → Option (Rs Dv)) (n : Nat) : Sp := fun vs H Q E => ∃ ds, Reps K H ds vs ∧ ds.length = n ∧ match F ds with
 | some (.ok d) => ∀ v H', Same H H' → Rep K H' d v → Q v H'
 | some (.exc c) => ∀ C H', PySem.W.nsIn K mainGlobals (xnm c) = some (some (.ref C)) → Same H H' → E (.ref C) none H'
 | none => False
def EX (X : Cx) : XK := fun cv _ H1 => ∃ c C, cv = .ref C ∧ PySem.W.nsIn X.K mainGlobals (xnm c) = some (some (.ref C)) ∧ XW X c H1
theorem yr {X : Cx} (hex : X.ex = []) : jn (CXE X.prog X.w) X (EX X) := by
 intro pins σ H s ev s' I ⟨e, cls, H', he, os, bare, un, hok, F, c, C, hcv, hC, hx⟩
 have I' : Inv X pins σ H' s' := I.call' (ch := []) os un hok bare fun b z => absurd z (by simp)
 refine hx pins σ H' s' ev (fun _ _ z => z) I' ⟨e, C, he, hC, hcv ▸ F.imp fun a ha => ⟨?_, fun p hp z => ?_⟩⟩
 · cases q : X.s₀.heap.get? a with
   | none => rfl
   | some o =>
    obtain ⟨o', z⟩ := I.base.there a o q (by rw [hex]; simp)
    rw [ha] at z
    cases z
 · have := (I.pin p (List.mem_append_left _ hp)).1
   rw [z, ha] at this
   cases this
def gU (F : List Dv → Option (Rs Dv)) (n : Nat) (g : FnA) : FnE := fun ρ => bnd (g ρ) fun ds => if ds.length = n then F ds else none
def xj (P : Program) (w : World) (K : PySem.W.Frag) (mg : Str → Option Value) (base : Heap) (x : Str) (k : Nat) (ps : List Str) (F : List Dv → Option (Rs Dv)) : Prop :=
 ∃ f fd, FnOk P w K mg base (CXE P w) k f fd ps (spE K F ps.length) ∧ mg x = some (.ref f) ∧ PySem.W.keepIn K (.ref f) = true ∧ Binds K fd ps []
section
variable {X : Cx} {k n : Nat} {ps : List Str} {x : Str} {p pos : Pos} {e : Expr} {es : List Expr} {F : List Dv → Option (Rs Dv)} {g : FnA}
theorem ol {k' : Nat} (k : Nat) (ps : List Str) (F : List Dv → Option (Rs Dv)) (h : xj X.prog X.w X.K X.mg X.base x k ps F) (hr : Room k' X.A) (hk : k ≤ k') (hex : X.ex = []) (hg : Gl X x) (ha : FA X (e :: es) g) (hn : n = ps.length := by kernel_rfl) (hdb : (x == ("__debug__" : Str)) = false := by kernel_rfl)
 (he : starEach (e :: es) X.env = (false, eval e X.env) :: starEach es X.env := by kernel_rfl) (hpl : (backTo pos (starEach es X.env)).any (·.1) = false := by kernel_rfl) :
 FE X (.Call (.Name x p) (e :: es) [] pos) (gU F n g) := by
 subst hn
 obtain ⟨f, fd, G, hm, hkp, hb⟩ := h
 refine bj (iz (G.mono hk) hr hg hm hkp hb .nil (yr hex) ha.h hdb he hpl) fun σ H Q ρ E o => ⟨ρ, E, OutA.bind o fun ds vs H' e rs o1 => ?_⟩
 show spE X.K F ps.length (vs ++ []) H' Q (EX X)
 rw [List.append_nil]
 by_cases hl : ds.length = ps.length
 · rw [if_pos hl] at o1
   refine ⟨ds, rs, hl, ?_⟩
   match hF : F ds with
   | none => rw [hF] at o1; exact o1.elim
   | some (.ok d) => rw [hF] at o1; exact o1
   | some (.exc c) => rw [hF] at o1; exact fun C H1 hC e1 => ⟨c, C, rfl, hC, XW.mono o1 e1⟩
 · rw [if_neg hl] at o1
   exact o1.elim
end
def pW (m : Nat) (fb : FnS) : List Dv → Option (Rs Dv) := fun ds => match fb (ds.map some ++ List.replicate (m - ds.length) none) with
 | some (.nx _) => some (.ok .non)
 | some (.rt d) => some (.ok d)
 | some (.exc c) => some (.exc c)
 | none => none
theorem yt {P : Program} {w : World} {K : PySem.W.Frag} {mg : Str → Option Value} {base : Heap} {N : List Str} {qual : Str} {scope : Scope} {f : Addr} {cd : Value} {A : Around} {outer : List Env} {s : Shared} {H : Hp} {E : XK} {c : Nat}
 (q : ∀ C H', PySem.W.nsIn K mainGlobals (xnm c) = some (some (.ref C)) → Same H H' → E (.ref C) none H') : XW (ik (CXE P w) P w K mg base N qual scope f cd A outer s H E) c H := by
 intro pins σ H' s1 ev e1 I ⟨e, C, he, hC, F⟩
 subst he
 have F' : Fly (fun a => s.heap.get? a = none) H' e (.ref C) s1.heap := F.imp fun a ha => ha.1
 refine lD I rfl rfl rfl F' fun h' Ts F2 A2 hf => ?_
 have I2 := Inv.aft (pins := []) (I.pins_of (pins' := []) fun p hp => nomatch hp) A2 rfl fun b hb => ⟨(hf b hb).1, (hf b hb).2.1, fun p hp => absurd (show p ∈ ([] : List (Addr × Obj)) from hp) (by simp), (hf b hb).2.2⟩
 exact ⟨e, .ref C, H', rfl, I.os, I.bare, I2.base, I2.hok, F2, q C H' hC e1⟩
theorem ve {k : Nat} {f : Addr} {fd : FuncData} {x : Str} {P : Program} {w : World} {K : PySem.W.Frag} {mg : Str → Option Value} {base : Heap} {qual : Str} {st : Stmt} {F : List Dv → Option (Rs Dv)} {n : Nat} (N ps : List Str) (fb : FnS) (hF : F = pW N.length fb) (hn : n = ps.length)
 (Fn : Fun K x qual st f fd) (S : bX N ps (ah st))
 (hb : ∀ (cdv : Value) (A : Around) (outer : List Env) (s : Shared) (H : Hp) (E : XK), Room k (A.deeper (envOfC qual (ah st) s.heap.objs.size f cdv)) → FSs (ik (CXE P w) P w K mg base N qual (ah st) f cdv A outer s H E) (aN st) fb) :
 FnOk P w K mg base (CXE P w) (k + 1) f fd ps (spE K F n) := by
 subst hF hn
 obtain ⟨oc, od, kV, doc, pm, an, cdv, ct, osl, rfl, lk, hcd⟩ := Fn.ex
 refine uf lk hcd S (fun vs H Q E h => ?_) fun A outer s H vs Q E hr h => ?_
 · obtain ⟨ds, r, hl, _⟩ := h
   rw [r.length, hl]
 · obtain ⟨ds, r, hl, q⟩ := h
   refine ⟨_, (hb cdv A outer s H E hr).h, ds.map some ++ List.replicate (N.length - ds.length) none, cy r, ?_⟩
   unfold pW at q
   match hf : fb (ds.map some ++ List.replicate (N.length - ds.length) none) with
   | none => rw [hf] at q; exact q.elim
   | some (.exc c) => rw [hf] at q; exact yt q
   | some (.rt d) => rw [hf] at q; exact fun v H' e r' => q v H' e r'
   | some (.nx ρ) => rw [hf] at q; exact fun σ' H' e _ => q .non H' e rfl
theorem fY {P : Program} {w : World} {H : Hp} {h : Heap} (ok : HOk P w H h) {a : Addr} {u : HO} (q : H a = some u) : ∃ o, h.get? a = some o := by
 have hk := ok a u q
 clear q
 induction u with
 | lst xs => obtain ⟨_, _, _, _, z⟩ := hk; exact ⟨_, z⟩
 | tup xs => obtain ⟨_, _, _, o, z, _⟩ := hk; exact ⟨_, z⟩
 | dK kvs => obtain ⟨_, _, _, _, o, _, _, z, _⟩ := hk; exact ⟨_, z⟩
 | dT kvs => obtain ⟨_, _, _, _, o, _, _, z, _⟩ := hk; exact ⟨_, z⟩
 | set S n => obtain ⟨o, _, _, _, z, _⟩ := hk; exact ⟨_, z⟩
 | ins C dx fs => obtain ⟨_, _, _, z, _⟩ := hk; exact ⟨_, z⟩
 | own y => obtain ⟨_, z⟩ := hk; exact ⟨_, z⟩
 | xd fs => obtain ⟨_, ⟨_, _, _, z, _⟩, _⟩ := hk; exact ⟨_, z⟩
 | rng lo hi => obtain ⟨_, _, _, z⟩ := hk; exact ⟨_, z⟩
 | frz ob u ih => obtain ⟨z, _⟩ := hk; exact ⟨_, z⟩
 | tbl ps => obtain ⟨_, z, _⟩ := hk; exact ⟨_, z⟩
 | met f y => exact ⟨_, (show h.get? a = some _ from hk)⟩
 | ext φ => obtain ⟨_, ⟨_, z⟩, _⟩ := hk; exact ⟨_, z⟩
theorem lE {P : Program} {w : World} {H : Hp} {h : Heap} (ok : HOk P w H h) {a : Addr} (n : h.get? a = none) : H a = none := by
 cases q : H a with
 | none => rfl
 | some u =>
  obtain ⟨o, z⟩ := fY ok q
  rw [n] at z
  cases z
theorem lF {K : PySem.W.Frag} {h : Heap} {mg : Str → Option Value} {x : Str} {C : Addr} {bmB : List Value} {newId : String} (X : K.In h) (hb : mg x = some (.ref C)) (q : PySem.W.excIn K C bmB newId = true) : OwnCls x C bmB newId mg h := by
 constructor
 · exact hb
 unfold PySem.W.excIn at q
 split at q
 · rename_i dd cd sl look
   split at q
   · rename_i C2 rest s0 s1 s2 s3 nid s5 em es
     simp only [Bool.and_eq_true, beq_iff_eq, Bool.not_eq_true'] at q
     have e1 := q.1.1.1.1.1
     have e2 := q.1.1.1.1.2
     have e3 := q.1.1.1.2
     have e4 := q.1.1.2
     have e5 := q.1.2
     have e6 := q.2
     clear q
     subst e1 e2
     obtain ⟨f1, f2, f3, f4, f5, f6, f7, f8, f9, f10, f11⟩ := cd
     dsimp only at em e3 e5 e6
     subst em e3
     obtain ⟨l⟩ := sl
     have e7 : l = [s0, s1, s2, s3, some (.builtin nid), s5] := es
     subst e7
     refine ⟨rest, f4, f1, f5, f2, f6, f7, f8, f9, f10, dd, s0, s1, s2, s3, s5, _, X _ _ look, .of_isNs (PySem.W.isNs_of_in X e5), ?_, PySem.W.tail_of_in X e4⟩
     exact PySem.W.nsMap_none_of_in X e5 e6
   · cases q
 · cases q
abbrev bmV : List Value := [.type "ValueError", .type "Exception", .type "BaseException", .type "object"]
structure XC (K : PySem.W.Frag) (c : Nat) (C : Addr) : Prop where
 nm : PySem.W.nsIn K mainGlobals (xnm c) = some (some (.ref C))
 ex : PySem.W.excIn K C bmV "ValueError.__new__" = true
def jz (c : Nat) (f : FnE) : FnS := fun ρ => fN (f ρ) fun _ => some (.exc c)
section
variable {X : Cx} {a : Expr} {fa : FnE} {np cpos pos : Pos} {x : Str} {C : Addr}
theorem om (c : Nat) (K : XC X.K c C) (hx : xnm c = x) (hm : X.mg x = some (.ref C)) (hex : X.ex = []) (hc : X.calm = true) (hg : Gl X x) (ha : FE X a fa)
 (he : starEach [a] X.env = (false, eval a X.env) :: starEach [] X.env := by kernel_rfl) (hdb : (x == ("__debug__" : Str)) = false := by kernel_rfl) :
 FS X (.Raise (some (.Call (.Name x np) [a] [] cpos)) none pos) (jz c fa) := by
 subst hx
 constructor
 intro pins s σ H D I ⟨ρ, E, o⟩
 obtain ⟨tl, N, nm, q, bs, hdct, sn, sub, ab, col, dd, k0, k1, k2, k3, k5, mN, hC, hN, hni, T⟩ := (lF I.ok.mod.kin hm K.ex).obj
 refine wpAny_Raise_call_subT (C := C) (nm := nm) (q := q) (N := N) (bs := bs) (bm := tl) (hdct := hdct) (sn := sn) (sub := sub) (ab := ab) (col := col) (dd := dd) (k0 := k0) (k1 := k1) (k2 := k2) (k3 := k3) (k5 := k5) PySem.F.excBase_ValueError (mN := mN)
  (T.hasType PySem.F.excBase_ValueError.hasBase) (I.ok.hd hc) (by rw [he]; rfl) hni (ef I hg hm ⟨rfl, ?_⟩ hdb)
 have hp := (aX ha b5 he).h cpos pins s σ H (fun vs H1 => vs.length = 1 ∧ XW X c H1) I ⟨ρ, E, ?_⟩
 · rw [he] at hp ⊢
   refine Calls.evalArgs_plain (thn hp fun us s2 ⟨vs, H1, I1, rv, hl, hw⟩ => ⟨rfl, ?_, I1.bk _ _ hC, hN.keeps I1.bk, T.keeps I1.bk, fun h' e me => ?_⟩)
   · rw [← rv.length, hl]; decide
   · have I2 : Inv X pins σ H1 { s2 with heap := h' } := I1.kept (t' := s2.toks) me.keeps
     obtain ⟨t, t1, t2, t3⟩ := me.there
     refine hw pins σ H1 _ (.ref e) (fun _ _ z => z) I2 ⟨e, C, rfl, K.nm, lE I1.hok me.new, ⟨?_, fun p hp z => ?_⟩, _, _, .ref t, t1, rfl, rfl, rfl, .inl rfl⟩
     · cases z : X.s₀.heap.get? e with
       | none => rfl
       | some o2 =>
        obtain ⟨o3, z3⟩ := I1.base.there e o2 z (by rw [hex]; simp)
        rw [me.new] at z3
        cases z3
     · have z2 := (I1.pin p (List.mem_append_left _ hp)).1
       rw [z, me.new] at z2
       cases z2
 · show OutA X H (aa fa al ρ) _
   unfold aa
   unfold jz at o
   match hf : fa ρ with
   | none => rw [hf] at o; exact o.elim
   | some (.exc c2) => rw [hf] at o; exact o
   | some (.ok d) => rw [hf] at o; exact fun vs H1 e1 r => ⟨r.length, XW.mono o e1⟩
end
end FD
namespace FD
open PySem PySem.Spec PyProof.Rows L2 PySem.W Builtin.Getset_descriptor
theorem lG : plainId "BaseException.__getattribute__" = true := by decide +kernel
theorem jA : builtinKind "BaseException.__getattribute__" = some .slot := by decide +kernel
theorem lH : splitId "BaseException.__getattribute__" = some ("BaseException", "__getattribute__") := by decide +kernel
theorem oo (self : Value) : bindSpecial (.builtin "BaseException.__getattribute__") self = pure (.builtin "BaseException.__getattribute__", [self]) := by
 have h1 : withoutEnding? "BaseException.__getattribute__" "#opaque" = none := by decide +kernel
 have h2 : withoutEnding? "BaseException.__getattribute__" "#data" = none := by decide +kernel
 simp only [bindSpecial, typeOf, builtinType, h1, h2, jA]; rfl
section
variable {prog : Program} {w : World} {A : Around} {E : Value → Shared → Prop} {s : Shared} {K : PySem.W.Frag} {x C : Addr} {ox : Obj}
structure XI (K : PySem.W.Frag) (C : Addr) : Prop where
 ga : findIn K (.ref C) "__getattribute__" = some (some (.builtin "BaseException.__getattribute__"))
 gt : findIn K (.ref C) "__getattr__" = some none
 cl : findIn K (.ref C) "__class__" = some (some (.builtin "object.__class__"))
 sp : specialIn K (.builtin "object.__class__") "__get__" = some (some (.builtin "getset_descriptor.__get__"))
 tk : takesIn K (.builtin "object.__class__") = some true
 ob : mroIn K C (.type "object") = some true
 be : mroIn K C (.type "BaseException") = some true
theorem vf (hx : s.heap.get? x = some ox) (hc : ox.cls = .ref C) {M : Model} : Looks M s.heap (typeOf (.ref x)) (.ref C) := hc ▸ (Looks.ld hx).andThen .now
theorem oq (X : K.In s.heap) (k : XI K C) {M : Model} : Looks M s.heap (Builtin.ObjectAttr.find (.ref x) (.ref C) "__class__") (.bind (.builtin "getset_descriptor.__get__") (.builtin "object.__class__")) := by
 have L1 := looks_findIn (M := M) X k.cl
 have L2 := looks_specialIn (M := M) X k.sp
 have L3 := looks_takesIn (M := M) X k.tk
 intro A2 Q2 E2 s2 k2 q2
 unfold Builtin.ObjectAttr.find
 refine wpAny_bind (L1 A2 _ E2 s2 k2 (wpAny_bind (L2 A2 _ E2 s2 k2 (wpAny_bind ?_))))
 unfold Builtin.ObjectAttr.dataDescriptor?
 refine wpAny_bind (L3 A2 _ E2 s2 k2 ?_)
 rw [if_pos rfl]
 exact wpAny_pure (wpAny_bind (wpAny_rule (wpAny_pure q2)))
theorem vg {R : Result → Shared → Prop} {tp : Value} (X : K.In s.heap) (hx : s.heap.get? x = some ox) (hc : ox.cls = .ref C) (hm : mroIn K C (.type "object") = some true)
 (h : R (.ok (.ret (.ref C))) s) : codeAny (model prog w) A (.call (.builtin "getset_descriptor.__get__") ⟨[.builtin "object.__class__", .ref x, tp], []⟩) R s := by
 have L0 := vf (M := model prog w) hx hc
 have L1 := looks_mroIn (M := model prog w) X hm
 obtain ⟨hh, g, dr, t, os⟩ := s
 refine codeAny_call_builtin KF.slot_gs.plain KF.entry_gs (KF.slot_gs.check _ _ _ _ _ _ _ _ KF.type_class (KF.args_gs _ _ _) ?_)
 unfold Builtin.«getset_descriptor.__get__» descrGet
 rw [dga_obj]
 refine wpAny_bind (wpAny_pure ?_)
 unfold descrGetter descrCheckInstance descrNameAndClass isInstance
 simp only [KF.owner_class]
 repeat lk
 refine ⟨Code.quiet_builtin _ (by decide +kernel), codeAny_builtin KF.entry_class ?_⟩
 unfold Builtin.«object.__class__» shownTypeOf
 repeat lk
 exact h
theorem lI {Q : Option Value → Shared → Prop} (X : K.In s.heap) (hx : s.heap.get? x = some ox) (hc : ox.cls = .ref C) (k : XI K C)
 (h : Q (some (.ref C)) { s with toks := s.toks + 1 }) : wpAny (model prog w) A (getAttr? (.ref x) "__class__") Q E s := by
 have L0 := vf (M := model prog w) hx hc
 have L2 := oq (M := model prog w) (x := x) X k
 obtain ⟨hh, g, d, t, os⟩ := s
 have L1 := looks_findIn (M := model prog w) X k.ga
 have L3 := looks_findIn (M := model prog w) X k.gt
 have LB := looks_mroIn (M := model prog w) X k.be
 unfold getAttr? getAttrBy? getAttrBy
 refine wpAny_bind (wpAny_mkText (wpAny_bind (wpAny_attempt (wpAny_holding (wpAny_bind (L0.at (wpAny_bind (L1.at ?_))))))))
 have hne : (Value.builtin "BaseException.__getattribute__" == Value.builtin "object.__getattribute__") = false := by decide +kernel
 dsimp only
 rw [hne, Bool.and_false, if_neg Bool.false_ne_true]
 unfold getAttrByItsOwn
 refine wpAny_bind ?_
 show wpAny _ _ (typeLookup (.ref C) "__getattr__") _ _ _
 refine L3.at ?_
 refine wpAny_bind (wpAny_attempt (wpAny_holding ?_))
 unfold callGetattribute boundAndCalled
 rw [if_neg (by decide)]
 rw [oo]
 refine wpAny_bind (wpAny_pure ?_)
 refine wpAny_call (codeAny_call_builtin lG F.entry_bexc_ga ?_)
 simp only [checkBuiltinCall, jA, lH]
 have ha := F.args_bexc_ga (.ref x) (.str "__class__" t)
 have LI : Looks (model prog w) hh (isInstance (.ref x) (.type "BaseException")) true := L0.andThen LB
 show wpAny _ _ (isInstance (.ref x) (.type "BaseException") >>= _) _ _ _
 refine wpAny_bind (LI.at ?_)
 simp only [Bool.not_true, Bool.false_eq_true, if_false]
 have hz : hh.get? x = some ox ∧ True := ⟨hx, trivial⟩
 clear hx
 repeat (any_goals (first | assumption | wp_step))
 have hx' := hz.1
 refine wpAny_loadPart_at hx' ?_
 refine wpAny_pure ?_
 rw [hc]
 refine wpAny_bind (L2.at ?_)
 dsimp only
 unfold Builtin.ObjectAttr.bindTo
 dsimp only
 refine wpAny_bind (wpAny_holding (wpAny_call (vg (s := ⟨hh, g, d, t + 1, os⟩) (ox := ox) X hx' hc k.ob ?_)))
 refine wpAny_pure ?_
 show wpAny _ _ (handedOut (.ref C)) _ _ _
 rw [handedOut_of rfl]
 exact wpAny_pure (wpAny_pure h)
theorem jB {K : PySem.W.Frag} {C : Addr} {b : Value} {r : Bool} (h : mroIn K C b = some r) : ∃ cd, clsIn K C = some cd := by
 unfold mroIn at h
 cases q : clsIn K C with
 | none => rw [q] at h; cases h
 | some cd => exact ⟨cd, rfl⟩
theorem ot {K : PySem.W.Frag} {x C : Addr} {ox : Obj} (k : XI K C) (hc : ox.cls = .ref C) : KitX K (.ref x) (.ref C) (fun h => h.get? x = some ox) where
 ty := fun M h _ q => hc ▸ (Looks.ld q).andThen .now
 it := fun _ _ X _ => by
  obtain ⟨cd, hc⟩ := jB k.ob
  unfold clsIn at hc
  split at hc
  · rename_i look
    intro A2 Q2 E2 s2 k2 q2
    unfold isType loadHead
    exact wpAny_bind (wpAny_loadPart (k2 _ _ (X _ _ look)) (wpAny_pure q2))
  · cases hc
 ne := fun h tp dd its n sl X htp => by
  obtain ⟨cd, hc⟩ := jB k.ob
  cases z : (Value.ref C == Value.ref tp) with
  | false => rfl
  | true =>
   have e := Value.ref.inj (beq_iff_eq.mp z)
   subst e
   unfold clsIn at hc
   split at hc
   · rename_i look
     cases (X _ _ look).symm.trans htp
   · cases hc
 ca := fun X q z => lI X q hc k z
end
def isX (tb : Nat → Option Bool) : Dv → Option (Rs Dv)
 | .exn c => match tb c with
  | some b => some (.ok (.bl b))
  | none => none
 | _ => none
def XT (K : PySem.W.Frag) (tb : Nat → Option Bool) (T : Value) : Prop := ∀ c b, tb c = some b → ∀ C, nsIn K mainGlobals (xnm c) = some (some (.ref C)) → XI K C ∧ kitOne K (.ref C) T = some b
section
variable {X : Cx} {p pos pT : Pos} {a : Expr} {fa : FnE} {T : Str}
theorem jC {tv : V} {tval : Value} (rt : ∀ u, RelV tv u → u = tval) {tb : Nat → Option Bool} (k : XT X.K tb tval) : CallR X (.builtin "isinstance") (fun xs H Q => ∃ v c b, xs = [v, tv] ∧ Rep X.K H (.exn c) v ∧ tb c = some b ∧ Q (.bl b) H) := by
 intro pins s σ H xs us Q I r h
 obtain ⟨v, c, b, rfl, rv, hb, q⟩ := h
 obtain ⟨a, o, u, C, rfl, hH, hc, hn⟩ := rv.exnE
 obtain ⟨u1, u2, rfl, r1, r2⟩ := ud r
 cases (show u1 = Value.ref a from r1)
 cases (rt u2 r2)
 obtain ⟨xi, kk⟩ := k c b hb C hn
 have hg : s.heap.get? a = some o := (I.hok a _ hH).1
 exact kia_one (ot xi hc) I.kIn hg kk (by intro z; cases z) fun tk => ⟨.bl b, H, I.tok tk, rfl, q⟩
theorem vh {tb : Nat → Option Bool} {CT : Addr} (k : XT X.K tb (.ref CT)) (hT : X.mg T = some (.ref CT)) (hgT : Gl X T) (hdT : (T == ("__debug__" : Str)) = false) (hg : Gl X "isinstance") (hm : X.mg "isinstance" = none) (ha : FE X a fa)
 (hs1 : starEach [a, .Name T pT] X.env = (false, eval a X.env) :: starEach [.Name T pT] X.env := by kernel_rfl) (hs2 : starEach [.Name T pT] X.env = (false, eval (.Name T pT) X.env) :: starEach [] X.env := by kernel_rfl)
 (hpl : (backTo pos (starEach [.Name T pT] X.env)).any (·.1) = false := by kernel_rfl) :
 FE X (.Call (.Name "isinstance" p) [a, .Name T pT] [] pos) (f1 (isX tb) fa) :=
 bj (cR (jC (tv := .ref CT) (fun u z => z) k) hg hm PyProof.Rows.boot_isinstance (bH ha.h (bH (iq (v := .ref CT) hgT hT rfl hdT) eY hs2) hs1) (by decide) (by decide) hs1 hpl) fun σ H Q ρ E o => ⟨ρ, E, Out.bind o fun d v H1 e1 r o1 => by
  show ∃ v2 c b, [v, V.ref CT] = [v2, V.ref CT] ∧ _
  cases d with
  | exn c =>
   have o2 : Out X H1 (match tb c with | some b => some (.ok (.bl b)) | none => none) Q := o1
   cases q : tb c with
   | none => rw [q] at o2; exact o2.elim
   | some b => rw [q] at o2; exact ⟨v, c, b, rfl, r, q, o2 _ H1 (.refl H1) rfl⟩
  | _ => exact o1.elim⟩
theorem vi {T : String} {tb : Nat → Option Bool} (k : XT X.K tb (.type T)) (hT : bootBuiltins (Str.ofString T) = some (.type T)) (hn : Str.ofString T ≠ "__name__") (hdT : (Str.ofString T == ("__debug__" : Str)) = false)
 (hg : Gl X "isinstance") (hm : X.mg "isinstance" = none) (hgT : Gl X (Str.ofString T)) (hmT : X.mg (Str.ofString T) = none) (ha : FE X a fa)
 (hs1 : starEach [a, .Name (Str.ofString T) pT] X.env = (false, eval a X.env) :: starEach [.Name (Str.ofString T) pT] X.env := by kernel_rfl) (hs2 : starEach [.Name (Str.ofString T) pT] X.env = (false, eval (.Name (Str.ofString T) pT) X.env) :: starEach [] X.env := by kernel_rfl)
 (hpl : (backTo pos (starEach [.Name (Str.ofString T) pT] X.env)).any (·.1) = false := by kernel_rfl) :
 FE X (.Call (.Name "isinstance" p) [a, .Name (Str.ofString T) pT] [] pos) (f1 (isX tb) fa) :=
 bj (cR (jC (tv := .ty T) (fun u z => z) k) hg hm PyProof.Rows.boot_isinstance (bH ha.h (bH (kO (v := .ty T) hgT hmT hT rfl hn hdT) eY hs2) hs1) (by decide) (by decide) hs1 hpl) fun σ H Q ρ E o => ⟨ρ, E, Out.bind o fun d v H1 e1 r o1 => by
  show ∃ v2 c b, [v, V.ty T] = [v2, V.ty T] ∧ _
  cases d with
  | exn c =>
   have o2 : Out X H1 (match tb c with | some b => some (.ok (.bl b)) | none => none) Q := o1
   cases q : tb c with
   | none => rw [q] at o2; exact o2.elim
   | some b => rw [q] at o2; exact ⟨v, c, b, rfl, r, q, o2 _ H1 (.refl H1) rfl⟩
  | _ => exact o1.elim⟩
end
end FD
namespace FD
open PySem PySem.Spec PyProof.Rows L2 PySem.W
section
variable {X : Cx} {pins : List (Addr × Obj)} {σ : L2.St} {H : Hp} {s : Shared}
theorem lJ {M : Model} {A : Around} {E : Value → Shared → Prop} {i : Nat} {x : Str} {v : V} {pos : Pos} {Q : Unit → Shared → Prop} (I : Inv X pins σ H s) (hN : X.N.Nodup) (hi : X.N[i]? = some x) (hk : X.env.scope.names.lookup x = some .local) (hv : σ[i]? = some (some v))
 (h : ∀ s', Inv X pins (σ.set i none) H s' → Q () s') : wpAny M A (unbindBehindTheSuite X.env x pos) Q E s := by
 obtain ⟨m, hn, hl⟩ := id I.loc
 have hkd : X.env.kindOf x = some .local := hk
 obtain ⟨u, ru, lk⟩ := hl i x v hi hv (.inl hk)
 have hm : m x = some u := by
  rcases lk with ⟨_, z⟩ | ⟨z, _⟩
  · exact z
  · rw [hkd] at z
    rcases z with z | z <;> cases z
 have hcls : (X.env.scope.kind == .class || (X.env.scope.kind == .module && X.env.locals != X.env.globals)) = false := by rw [I.ok.kind]; rfl
 have cne := I.cne
 obtain ⟨oL, _, _, hoL, _⟩ := id hn
 refine wpAny_onRaise (wpAny_unbindName_local hkd hn hm hcls fun h' w hn' hs => ?_)
 refine h _ ⟨I.ok, I.os, I.bare, ⟨fun b o e n hb hx => ?_, fun b o e n hb hx => ?_, I.base.free, fun b o e hx => ?_, I.base.tups, I.base.frzs, I.base.tbls⟩, ⟨_, hn', fun j y v' e1 e2 e3 => ?_⟩, fun y c e => ?_, I.free, I.freeC, fun p hp => ?_, fun b ob e => ?_, by simpa using I.len⟩
 · exact (hs.2 b (Nat.ne_of_lt (Nat.lt_of_lt_of_le (Heap.lt_size e) I.ok.above))).trans (I.base.keep b o e n hb hx)
 · obtain ⟨sl, e1⟩ := I.base.slot b o e n hb hx
   exact ⟨sl, (hs.2 b (Nat.ne_of_lt (Nat.lt_of_lt_of_le (Heap.lt_size e) I.ok.above))).trans e1⟩
 · obtain ⟨o', e1⟩ := I.base.there b o e hx
   exact ⟨o', (hs.2 b (Nat.ne_of_lt (Nat.lt_of_lt_of_le (Heap.lt_size e) I.ok.above))).trans e1⟩
 · by_cases hj : j = i
   · subst hj
     have hjl : j < σ.length := by rw [I.len]; exact (List.getElem?_eq_some_iff.mp hi).1
     rw [List.getElem?_set_self hjl] at e2
     cases e2
   · rw [List.getElem?_set_ne (Ne.symm hj)] at e2
     obtain ⟨u', r', q⟩ := hl j y v' e1 e2 e3
     refine ⟨u', r', ?_⟩
     rcases q with ⟨k, e⟩ | ⟨k, c, e, z⟩
     · refine .inl ⟨k, ?_⟩
       have : y ≠ x := fun e => hj (fI hN e1 (e ▸ hi))
       simp [this, e]
     · exact .inr ⟨k, c, e, z.sameBut hs (cne y c e)⟩
 · obtain ⟨w', z⟩ := I.cell y c e
   exact ⟨w', z.sameBut hs (cne y c e)⟩
 · obtain ⟨e, n, ne, nf, d⟩ := I.pin p hp
   exact ⟨(hs.2 p.1 ne).trans e, n, ne, nf, d⟩
 · refine (I.hok b ob e).stay (fun c w' hc q => (hs.2 c ?_).trans q) (fun _ q => q) fun _ _ q => q
   rintro rfl
   rcases hc with hc | hc
   · rw [← hc, I.free] at e; cases e
   · rw [I.free] at hc; cases hc
theorem Inv.freeze {e : Addr} {oe : Obj} {vs : Array Value} (I : Inv X pins σ H s) (he : H e = none) (hg : s.heap.get? e = some oe) (hd : oe.data = .fields vs) (h0 : X.s₀.heap.get? e = none) (hp : ∀ p ∈ X.pn ++ pins, p.1 ≠ e) :
 Inv X pins σ (upd H e (.frz oe (.ext fun _ => True))) s := by
 have ne : ∀ b u, H b = some u → b ≠ e := fun b u q => aj q he
 refine ⟨I.ok, I.os, I.bare, ⟨I.base.keep, I.base.slot, fun b o q n hx => ?_, I.base.there, fun b xs q => ?_, fun b o u q => ?_, fun b ps q => ?_⟩, I.loc, I.cell, ?_, fun x c q => ?_, fun p hp' => ?_, fun b u q => ?_, I.len⟩
 · have hb : b ≠ e := fun z => by rw [z, h0] at q; cases q
   rw [ak hb]
   exact I.base.free b o q n hx
 · have q' := I.base.tups b xs q
   rw [ak (ne b _ q')]
   exact q'
 · have q' := I.base.frzs b o u q
   rw [ak (ne b _ q')]
   exact q'
 · obtain ⟨more, q'⟩ := I.base.tbls b ps q
   exact ⟨more, by rw [ak (ne b _ q')]; exact q'⟩
 · obtain ⟨m, ⟨o, es, ep, ho, hdd, _⟩, _⟩ := I.loc
   have hb : X.env.locals ≠ e := fun z => by rw [z, hg] at ho; cases ho; rw [hd] at hdd; cases hdd
   rw [ak hb]
   exact I.free
 · obtain ⟨v, o, ho, hdd⟩ := I.cell x c q
   have hb : c ≠ e := fun z => by rw [z, hg] at ho; cases ho; rw [hd] at hdd; cases hdd
   rw [ak hb]
   exact I.freeC x c q
 · obtain ⟨q1, q2, q3⟩ := I.pin p hp'
   exact ⟨q1, by rw [ak (hp p hp')]; exact q2, q3⟩
 · by_cases hb : b = e
   · subst hb
     rw [am] at q
     cases q
     exact ⟨hg, trivial, ⟨oe, hg⟩, fun _ _ _ _ => trivial⟩
   · rw [ak hb] at q
     exact (I.hok b u q).stay (fun _ _ _ z => z) (fun c z => by rw [ak (ne c _ z)]; exact z) (fun c xs z => by rw [ak (ne c _ z)]; exact z) fun c _ _ z => by rw [ak (ne c _ z)]; exact z
end
structure RoomM (k : Nat) (A : Around) : Prop where
 dp : A.depth + 3 * k + 5 < recursionLimit
 un : A.units + 16 * k + 200 < cLine
theorem RoomM.of {k : Nat} {A : Around} (r : Room k A) : RoomM k A := ⟨r.dp, r.un⟩
theorem RoomM.mono {j k : Nat} {A : Around} (r : RoomM k A) (h : j ≤ k) : RoomM j A := ⟨by have := r.dp; omega, by have := r.un; omega⟩
theorem RoomM.deeper {k : Nat} {A : Around} (r : RoomM (k + 1) A) (env : Env) : RoomM k (A.deeper env) :=
 ⟨by have := r.dp; show A.depth + 1 + 3 * k + 5 < _; omega, by have := r.un; show A.units + 3 + 16 * k + 200 < _; omega⟩
theorem RoomM.units {k : Nat} {A : Around} (r : RoomM k A) : A.units + 64 < cLine := by have := r.un; omega
structure FnM (P : Program) (w : World) (K : PySem.W.Frag) (mg : Str → Option Value) (base : Heap) (k : Nat) (f : Addr) (fd : FuncData) (ps : List Str) (F : List Dv → Option (Rs Dv)) : Prop where
 run : ∀ (A : Around) (outer : List Env) (s : Shared) (H : Hp) (args : Args) (us : List Value) (vs : List V) (ds : List Dv) (d : Dv) (Q : VK), RoomM k A → Env0 P w K mg base A outer s H → BindsTo s fd args (ps.zip us) → Vals vs us →
  Reps K H ds vs → ds.length = ps.length → F ds = some (.ok d) → (∀ v H', Same H H' → Rep K H' d v → Q v H') → codeAny (model P w) A (.call (.ref f) args) (CR CX0 outer P w H s Q E0) s
def xl (P : Program) (w : World) (K : PySem.W.Frag) (mg : Str → Option Value) (base : Heap) (x : Str) (k : Nat) (ps : List Str) (F : List Dv → Option (Rs Dv)) : Prop :=
 ∃ f fd, FnM P w K mg base k f fd ps F ∧ mg x = some (.ref f) ∧ PySem.W.keepIn K (.ref f) = true ∧ Binds K fd ps []
section
variable {X : Cx} {x : Str} {p pos : Pos} {e : Expr} {es : List Expr} {g : FnA} {n : Nat}
theorem ou {k' : Nat} (k : Nat) (ps : List Str) (F : List Dv → Option (Rs Dv)) (h : xl X.prog X.w X.K X.mg X.base x k ps F) (hr : RoomM k' X.A) (hk : k ≤ k') (hg : Gl X x) (ha : FA X (e :: es) g) (hn : n = ps.length := by kernel_rfl) (hdb : (x == ("__debug__" : Str)) = false := by kernel_rfl)
 (he : starEach (e :: es) X.env = (false, eval e X.env) :: starEach es X.env := by kernel_rfl) (hpl : (backTo pos (starEach es X.env)).any (·.1) = false := by kernel_rfl) :
 FE X (.Call (.Name x p) (e :: es) [] pos) (ay F n g) := by
 subst hn
 obtain ⟨f, fd, G, hm, hkp, hb⟩ := h
 constructor
 intro pins s σ H Q I ⟨ρ, E, o⟩
 have hp : wpAny (model X.prog X.w) X.A (spliced (backTo pos (starEach (e :: es) X.env))) (AP X pins σ fun vs H1 => ∃ ds, Reps X.K H1 ds vs ∧ ds.length = ps.length ∧ ∃ d, F ds = some (.ok d) ∧ ∀ v H', Same H1 H' → Rep X.K H' d v → Q v H') X.xe s := by
  refine ha.h pos pins s σ H _ I ⟨ρ, E, OutA.bind o fun ds vs H' e rs o1 => ?_⟩
  by_cases hl : ds.length = ps.length
  · rw [if_pos hl] at o1
    refine ⟨ds, rs, hl, ?_⟩
    match hF : F ds with
    | none => rw [hF] at o1; exact o1.elim
    | some (.exc c) => rw [hF] at o1; exact o1.elim
    | some (.ok d) => rw [hF] at o1; exact ⟨d, rfl, o1⟩
  · rw [if_neg hl] at o1
    exact o1.elim
 refine wpAny_Call_Name_kw (ef I hg hm ?_ hdb)
 refine PySem.W.callWith_K (h₀ := X.base) I.ok.mod.kin hkp (thn hp fun us s1 ⟨vs, H1, I1, r, ds, rs, hl, d, hF, q⟩ => ⟨I1.kIn, ?_⟩) he hpl
 have hlen : us.length = ps.length := by rw [← r.length, rs.length, hl]
 have hb' : BindsTo s1 fd ⟨us, []⟩ (ps.zip us) := by
  have z := hb s1 us I1.kIn (by rw [List.append_nil]; exact hlen)
  rw [List.append_nil] at z
  exact z
 refine wpAny_call (codeAny_mono (G.run X.A X.stack s1 H1 ⟨us, []⟩ us vs ds d Q (hr.mono hk) I1.env0 hb' r rs hl hF q) fun r s' hq => ?_)
 cases r with
 | error e => exact hq.elim
 | ok fl =>
  cases fl with
  | ret u => exact I1.after hq
  | next => exact False.elim hq
  | brk => exact False.elim hq
  | cont => exact False.elim hq
end
def cxM (P : Program) (w : World) (K : PySem.W.Frag) (mg : Str → Option Value) (base : Heap) (N : List Str) (qual : Str) (scope : Scope) (f : Addr) (cd : Value) (A : Around) (outer : List Env) (s : Shared) (H : Hp) : Cx :=
 { ik CX0 P w K mg base N qual scope f cd A outer s H E0 with calm := false, xe := fun _ _ => False }
theorem vj {k : Nat} {f : Addr} {fd : FuncData} {x : Str} {P : Program} {w : World} {K : PySem.W.Frag} {mg : Str → Option Value} {base : Heap} {qual : Str} {st : Stmt} {F : List Dv → Option (Rs Dv)} (N ps : List Str) (fb : FnS) (hF : F = dD N.length fb)
 (Fn : Fun K x qual st f fd) (S : bX N ps (ah st))
 (hb : ∀ (cdv : Value) (A : Around) (outer : List Env) (s : Shared) (H : Hp), RoomM k (A.deeper (envOfC qual (ah st) s.heap.objs.size f cdv)) → FSs (cxM P w K mg base N qual (ah st) f cdv A outer s H) (aN st) fb) :
 FnM P w K mg base (k + 1) f fd ps F := by
 subst hF
 obtain ⟨oc, od, kV, doc, pm, an, cdv, ct, osl, rfl, lk, hcd⟩ := Fn.ex
 refine ⟨fun A outer s H args us vs ds d Q hr e0 hbd r rs hl hF q => ?_⟩
 have hlv : vs.length = ps.length := by rw [rs.length, hl]
 have KX : K.In s.heap := e0.mod.kin.keeps fun b o e => (e0.bs b o e).1
 have lim : s.heap.NoLimit := e0.mod.nolimit.keeps fun b o e => (e0.bs b o e).1
 have hkind : ∀ y ∈ ps.zip us, (ah st).names.lookup y.1 = some .local ∨ ((ah st).names.lookup y.1 = some .cell ∧ ((cellsFrom (s.heap.objs.size + 1) (ah st).names []).lookup y.1).isSome = true) := fun ⟨n, v⟩ hy => by
  rcases S.par n (List.of_mem_zip hy).1 with z | z
  · exact .inl z
  · exact .inr ⟨z, PySem.W.cellsFrom_some _ _ _ (.inl z)⟩
 have hdp : A.depth < recursionLimit := by have := hr.dp; omega
 refine codeAny_call_function hdp (KX _ _ lk) rfl S.co S.gen rfl (PySem.W.codeRec_of KX hcd) (hbd _ _ _ _ ?_)
 refine wpAny_newFunctionEnv_cells S.kind hkind fun env he s1 x => ?_
 subst he
 refine ⟨lim.keeps x.toInCall.keep, codeAny_func ?_⟩
 have e1 : Env0 P w K mg base { A with handled := none } outer s H := ⟨e0.frames, e0.mod, e0.bs, e0.bsz, e0.funs, e0.frf, e0.hok, e0.bare⟩
 have I0 : Inv (ik CX0 P w K mg base N qual (ah st) f cdv { A with handled := none } outer s H E0) [] (start N vs) H s1 := gF S rfl e1 hlv r x
 have I : Inv (cxM P w K mg base N qual (ah st) f cdv A outer s H) [] (start N vs) H s1 :=
  ⟨⟨I0.ok.mod, I0.ok.kind, I0.ok.glob, I0.ok.blt, I0.ok.above, I0.ok.inj, I0.ok.has, I0.ok.cab, (fun z => absurd z Bool.false_ne_true), Around.frames_deeper e0.frames, I0.ok.stk, I0.ok.exf, I0.ok.bs, I0.ok.bsz, I0.ok.noex, I0.ok.exfs, I0.ok.funs, I0.ok.frf⟩,
   I0.os, I0.bare, I0.base, I0.loc, I0.cell, I0.free, I0.freeC, I0.pin, I0.hok, I0.len⟩
 have fin : ∀ {s' : Shared} {σ' : L2.St} {H' : Hp} {v : V} {u : Value}, Inv (cxM P w K mg base N qual (ah st) f cdv A outer s H) [] σ' H' s' → RelV v u → Q v H' → CE outer P w H s Q u s' := fun {s' σ' H' v u} J rv q => ⟨v, H', J.os, J.bare, J.base, J.hok, rv, q⟩
 have hq : OutS (cxM P w K mg base N qual (ah st) f cdv A outer s H) H (fb (ds.map some ++ List.replicate (N.length - ds.length) none)) { nx := fun _ H' => Q .non H', rt := Q } := by
  unfold dD at hF
  match hf : fb (ds.map some ++ List.replicate (N.length - ds.length) none) with
  | none => rw [hf] at hF; cases hF
  | some (.exc c) => rw [hf] at hF; cases hF
  | some (.rt d') => rw [hf] at hF; cases hF; exact q
  | some (.nx ρ) => rw [hf] at hF; cases hF; exact fun σ' H' e _ => q .non H' e rfl
 refine wpAny_mono ((hb cdv A outer s H (hr.deeper _)).h [] s1 (start N vs) H _ I ⟨_, cy rs, hq⟩) (fun fl s' hs => ?_) fun e s' hs => hs.elim
 cases fl with
 | ret u =>
  obtain ⟨v, σ', H', J, rv, z⟩ := hs
  exact fin J rv z
 | next =>
  obtain ⟨σ', H', J, z⟩ := hs
  exact fin (v := V.non) (u := Value.none) J rfl z
 | brk =>
  obtain ⟨_, _, _, z⟩ := hs
  exact False.elim z
 | cont =>
  obtain ⟨_, _, _, z⟩ := hs
  exact False.elim z
abbrev sV (X : Cx) (pl : List (Addr × Obj)) (E : Value → Shared → Prop) : Cx := { X with pn := X.pn ++ pl, xe := E }
abbrev gW (X : Cx) (pl : List (Addr × Obj)) (e : Addr) : Cx := { X with A := X.A.mark (some (.ref e)), calm := false, pn := X.pn ++ pl, xe := fun _ _ => False }
section
variable {X : Cx} {pl ps : List (Addr × Obj)} {σ : L2.St} {H : Hp} {s : Shared} {E : Value → Shared → Prop} {e : Addr}
theorem rf (I : Inv X pl σ H s) : Inv (sV X pl E) [] σ H s :=
 ⟨⟨I.ok.mod, I.ok.kind, I.ok.glob, I.ok.blt, I.ok.above, I.ok.inj, I.ok.has, I.ok.cab, I.ok.hd, I.ok.frames, I.ok.stk, I.ok.exf, I.ok.bs, I.ok.bsz, I.ok.noex, I.ok.exfs, I.ok.funs, I.ok.frf⟩,
  I.os, I.bare, I.base, I.loc, I.cell, I.free, I.freeC, fun p hp => I.pin p (by simpa using hp), I.hok, I.len⟩
theorem eu (I : Inv (sV X pl E) ps σ H s) : Inv X pl σ H s :=
 ⟨⟨I.ok.mod, I.ok.kind, I.ok.glob, I.ok.blt, I.ok.above, I.ok.inj, I.ok.has, I.ok.cab, I.ok.hd, I.ok.frames, I.ok.stk, I.ok.exf, I.ok.bs, I.ok.bsz, I.ok.noex, I.ok.exfs, I.ok.funs, I.ok.frf⟩,
  I.os, I.bare, I.base, I.loc, I.cell, I.free, I.freeC, fun p hp => I.pin p (List.mem_append_left _ hp), I.hok, I.len⟩
theorem jD (I : Inv X pl σ H s) : Inv (gW X pl e) [] σ H s :=
 ⟨⟨I.ok.mod, I.ok.kind, I.ok.glob, I.ok.blt, I.ok.above, I.ok.inj, I.ok.has, I.ok.cab, fun z => absurd z Bool.false_ne_true, I.ok.frames, I.ok.stk, I.ok.exf, I.ok.bs, I.ok.bsz, I.ok.noex, I.ok.exfs, I.ok.funs, I.ok.frf⟩,
  I.os, I.bare, I.base, I.loc, I.cell, I.free, I.freeC, fun p hp => I.pin p (by simpa using hp), I.hok, I.len⟩
theorem kn (ok : X.Ok) (I : Inv (gW X pl e) ps σ H s) : Inv X pl σ H s :=
 ⟨ok, I.os, I.bare, I.base, I.loc, I.cell, I.free, I.freeC, fun p hp => I.pin p (List.mem_append_left _ hp), I.hok, I.len⟩
theorem ow {Y : Cx} (I : Inv Y ps σ H s) (hex : Y.ex = []) (hst : Y.stack = Y.env :: Y.outer) (hfm : Y.env.frame = some Y.env.locals) {cls : Value} (F : Fly (xY Y) H e cls s.heap)
 {Q : Unit → Shared → Prop} {E1 E2 : Value → Shared → Prop} (k : ∀ h' Ts a0, (hid Y e Ts s.heap).StaysIn h' → h'.FunFrames (hid Y e Ts s.heap) Y.stack → h'.TracedW (hid Y e Ts s.heap) e cls a0 →
  (∀ b o, s.heap.get? b = some o → (∀ vs, o.data ≠ .fields vs) → ∃ sl, h'.get? b = some { o with slots := sl }) →
  (∀ b, b = e ∨ b ∈ Ts → H b = none ∧ xY Y b ∧ ∃ o vs, s.heap.get? b = some o ∧ o.data = .fields vs) → Q () { s with heap := h' }) :
 wpAny (model Y.prog Y.w) Y.A (noteFrame (.ref e) Y.env) (fun _ s2 => wpAny (model Y.prog Y.w) Y.A (setFlight (.ref e) none) Q E1 s2) E2 s := by
 obtain ⟨f1, f2, oe, vs, a0, q1, q2, q3, q4, q5⟩ := F
 have hfr : Y.A.frames = some (Y.env :: Y.outer) := hst ▸ I.ok.frames
 subst q2
 rcases q5 with q5 | ⟨T, oT, ts, r1, r2, r3, r4, r5, r6, r7⟩
 · have b3 : s.heap.FunFrames (hid Y e [] s.heap) (Y.env :: Y.outer) := hst ▸ fX I
   have go : ∀ h', Heap.NotedW (hid Y e [] s.heap) (Y.env :: Y.outer) e oe.cls a0 (rawInt Y.env.locals) s.heap h' → wpAny (model Y.prog Y.w) Y.A (setFlight (.ref e) none) Q E1 { s with heap := h' } := fun h' ⟨k1, k2, k3, k4⟩ =>
    wpAny_setFlight_noneW (s := { s with heap := h' }) k1 k2 k3 fun h2 m1 m2 m3 m4 => k h2 [] a0 m1 (hst ▸ m2) m3 (fun b o q d => by
     obtain ⟨sl, q'⟩ := k4 b o q d
     exact ⟨sl, m4 b _ q' d⟩) fun b hb => by
      rcases hb with rfl | hb
      · exact ⟨f1, f2, oe, vs, q1, q3⟩
      · cases hb
   unfold noteFrame
   simp only [hfm]
   refine wpAny_bind (wpAny_field q1 q3 q5 ?_)
   rw [if_neg (by decide)]
   exact wpAny_entryW hfr b3 hfm q1 (fun b o z => PySem.W.of_hideAll _ z) (PySem.W.hideAll_none _ (List.mem_cons_self ..)) q3 (Array.getElem?_eq_some_iff.mp q5).1 q4 go
 · have b3 : s.heap.FunFrames (hid Y e [T] s.heap) (Y.env :: Y.outer) := hst ▸ fX I
   have ht : s.heap.TracedW (hid Y e [T] s.heap) e oe.cls a0 := ⟨oe, vs, T, oT, ts, q1, ⟨rfl, q4⟩, q3, r1, PySem.W.hideAll_none _ (by simp), r2, r5, r6, r7⟩
   refine wpAny_noteFrame_onW hfr b3 hfm ht (fun b o z => PySem.W.of_hideAll _ z) (PySem.W.hideAll_none _ (List.mem_cons_self ..)) fun h' ⟨k1, k2, k3, k4⟩ => ?_
   refine wpAny_setFlight_noneW (s := { s with heap := h' }) k1 k2 k3 fun h2 m1 m2 m3 m4 => k h2 [T] a0 m1 (hst ▸ m2) m3 (fun b o q d => by
    obtain ⟨sl, q'⟩ := k4 b o q d
    exact ⟨sl, m4 b _ q' d⟩) fun b hb => by
     rcases hb with rfl | hb
     · exact ⟨f1, f2, oe, vs, q1, q3⟩
     · simp at hb
       subst hb
       exact ⟨r3, r4, oT, ts, r5, r6⟩
theorem lK {prog : Program} {w : World} {A : Around} {E1 : Value → Shared → Prop} {K : PySem.W.Frag} {mg mg2 : Str → Option Value} {C J : Addr} {oe : Obj} {y z : Str} {Q : Bool → Shared → Prop} (X : K.In s.heap) (hC : OwnCls y C bmV "ValueError.__new__" mg s.heap) (hJ : OwnCls z J bmV "ValueError.__new__" mg2 s.heap)
 (he : s.heap.get? e = some oe) (hc : oe.cls = .ref C) (hm : mroIn K C (.ref J) = some true) (h : Q true s) : wpAny (model prog w) A (excMatches (.ref e) (.ref J)) Q E1 s := by
 obtain ⟨tl, N, nm, q, bs, hdct, sn, sub, ab, col, dd, k0, k1, k2, k3, k5, mN, hC, hN, hni, T⟩ := hC.obj
 obtain ⟨tl', N', nm', q', bs', hdct', sn', sub', ab', col', dd', l0, l1, l2, l3, l5, mN', hJ, hN', hni', T'⟩ := hJ.obj
 obtain ⟨hh, g, d, t, os⟩ := s
 have hcB : (Value.ref J :: tl').contains (.type "BaseException") = true := by rw [List.contains_cons, T'.hasType PySem.F.excBase_ValueError.hasBase, Bool.or_true]
 have hcC : (Value.ref C :: tl).contains (.ref J) = true := by
  unfold mroIn at hm
  obtain ⟨cd, a, b⟩ := Option.bind_eq_some_iff.mp hm
  split at b
  · cases b
  · have b' := Option.some.inj b
    unfold clsIn at a
    split at a
    · rename_i look
      cases a
      have z := (X _ _ look).symm.trans hC
      cases z
      exact b'
    · cases a
 have f := tc_notTuple
 unfold excMatches
 repeat (first | (with_reducible refine wpAny_loadPart_at he ?_; rw [hc]) | with_reducible refine wpAny_loadPart_at hJ ?_ | (with_reducible refine wpAny_isSubtype_exc hJ ?_; rw [hcB]) | (with_reducible refine wpAny_isSubtype_exc hC ?_; rw [hcC]) | wp_step)
 exact h
end
def xn (m i N : Nat) (f g : FnE) : FnS := fun ρ => match f ρ with
 | none => none
 | some (.ok d) => some (.rt d)
 | some (.exc c) => if c < m then (match g ((List.replicate N none).set i (some (.exn c))) with
  | some (.ok d) => some (.rt d)
  | _ => none) else none
section
variable {X : Cx} {ex hx : Expr} {f g : FnE} {J n : Str} {CJ : Addr} {np rp rp2 hpos pos : Pos}
theorem vm (m i N : Nat) (hex : X.ex = []) (hst : X.stack = X.env :: X.outer) (hfm : X.env.frame = some X.env.locals) (hgJ : Gl X J) (hmJ : X.mg J = some (.ref CJ)) (KJ : excIn X.K CJ bmV "ValueError.__new__" = true)
 (xk : ∀ c C, c < m → nsIn X.K mainGlobals (xnm c) = some (some (.ref C)) → excIn X.K C bmV "ValueError.__new__" = true ∧ mroIn X.K C (.ref CJ) = some true)
 (hN : X.N.Nodup) (hi : X.N[i]? = some n) (hl : X.env.scope.names.lookup n = some .local) (hNl : X.N.length = N)
 (hb : ∀ pl E', FE (sV X pl E') ex f) (hh : ∀ pl e, FE (gW X pl e) hx g) (hdb : (J == ("__debug__" : Str)) = false := by kernel_rfl) :
 FS X (.Try [.Return (some ex) rp] [.ExceptHandler (some (.Name J np)) (some n) [.Return (some hx) rp2] hpos] [] [] pos) (xn m i N f g) := by
 constructor
 intro pins s σ H D I ⟨ρ, E, o⟩
 refine wpAny_Try_except ?_
 have hbody := fun E' (h : OutS (sV X pins E') H (bD f ρ) { nx := fun _ _ => False, rt := D.rt }) => (df (fj (pos := rp) (hb pins E'))).h [] s σ H { nx := fun _ _ => False, rt := D.rt } (rf I) ⟨ρ, E, h⟩
 refine wpAny_mono (hbody (fun e s₁ => wpAny (model X.prog X.w) X.A (noteFrame e X.env) (fun _ s₂ => wpAny (model X.prog X.w) X.A (setFlight e none) (fun _ s₃ => wpAny (model X.prog X.w) X.A (handleBy e X.env [.ExceptHandler (some (.Name J np)) (some n) [.Return (some hx) rp2] hpos]) (SP X pins D) X.xe s₃) X.xe s₂) X.xe s₁) ?_) (fun fl s1 hs => ?_) fun e s1 hs => hs
 · unfold xn at o
   unfold bD
   match hf : f ρ with
   | none => rw [hf] at o; exact o.elim
   | some (.ok d) => rw [hf] at o; exact o
   | some (.exc c) =>
    rw [hf] at o
    dsimp only at o
    by_cases hcm : c < m
    · rw [if_pos hcm] at o
      intro ps σ1 H1 s1 ev same I1 ⟨e, C, he, hC, F⟩
      subst he
      have fe : H1 e = none := F.1
      have fn := F.2.1
      refine ow (Y := sV X pins _) I1 hex hst hfm F (E1 := X.xe) (E2 := X.xe) fun h2 Ts a0 k1 k2 k3 k4 k5 => ?_
      have I1' := I1.pins_of (pins' := []) fun p hp => absurd hp (by simp)
      have hf5 : ∀ b, b = e ∨ b ∈ Ts → H1 b = none ∧ X.s₀.heap.get? b = none ∧ (∀ p ∈ (X.pn ++ pins) ++ [], p.1 ≠ b) ∧ ∃ o vs, s1.heap.get? b = some o ∧ o.data = .fields vs := fun b hb => ⟨(k5 b hb).1, (k5 b hb).2.1.1, fun p hp => (k5 b hb).2.1.2 p (by simpa using hp), (k5 b hb).2.2⟩
      have I2 := Inv.aft I1' (jy I1 k1 k4) hex hf5
      have J2 : Inv (gW X pins e) [] σ1 H1 { s1 with heap := h2 } := jD (eu I2)
      have k3' := k3
      obtain ⟨oe, vs, T, oT, ts, t1, ⟨t2, t3⟩, t4, _⟩ := k3'
      obtain ⟨xC, xm⟩ := xk c C hcm hC
      refine wpAny_handleBy_cons (codeAny_handlers_test (ef (X := gW X pins e) J2 hgJ hmJ ?_ hdb)) (by intro z; cases z)
      refine lK (mg := fun _ => some (.ref C)) (y := n) J2.kIn (lF J2.kIn rfl xC) (lF J2.kIn hmJ KJ) t1 t2 xm ?_
      show codeAny _ _ (.handlers (.ref e) [.ExceptHandler none (some n) [.Return (some hx) rp2] hpos] X.env) _ _
      refine codeAny_handlers_suite_as ?_
      refine wpAny_setFlight_noneW (s := { s1 with heap := h2 }) k1 k2 k3.at fun h3 m1 m2 m3 m4 => ?_
      have A3 : Aft (sV X pins _) e Ts s1.heap h3 := jy I1 m1 fun b o q d => by
       obtain ⟨sl, q'⟩ := k4 b o q d
       exact ⟨sl, m4 b _ q' d⟩
      have I3 := Inv.aft I1' A3 hex hf5
      obtain ⟨oe3, vs3, T3, oT3, ts3, u1, ⟨u2, u3⟩, u4, _⟩ := m3
      have I4 := Inv.freeze I3 fe u1 u4 fn.1 fun p hp => fn.2 p (by simpa using hp)
      have J4 : Inv (gW X pins e) [] σ1 (upd H1 e (.frz oe3 (.ext fun _ => True))) { s1 with heap := h3 } := jD (eu I4)
      refine dH (X := gW X pins e) J4 hN hi (.inl hl) (v := .ref e) rfl (fun s5 J5 => ?_) (.inr hl)
      have rep : Rep X.K (upd H1 e (.frz oe3 (.ext fun _ => True))) (.exn c) (.ref e) := ⟨e, oe3, _, C, rfl, am, u2, hC⟩
      have E5 : Envs X.K (upd H1 e (.frz oe3 (.ext fun _ => True))) (σ1.set i (some (.ref e))) ((List.replicate N none).set i (some (.exn c))) := by
       refine Envs.set (ρ := List.replicate N none) ⟨?_, fun j d hj => ?_⟩ rep
       · rw [I1.len, List.length_replicate]; exact hNl
       · rw [List.getElem?_replicate] at hj
         split at hj <;> cases hj
      match hg : g ((List.replicate N none).set i (some (.exn c))) with
      | none => rw [hg] at o; exact o.elim
      | some (.exc c2) => rw [hg] at o; exact o.elim
      | some (.ok d) =>
       rw [hg] at o
       have hrun := (df (fj (pos := rp2) (hh pins e))).h [] s5 _ _ { nx := fun _ _ => False, rt := D.rt } J5 ⟨_, E5, (by
        unfold bD
        rw [hg]
        exact fun v H' e1 r => o v H' ((same.trans (ao fe _)).trans e1) r)⟩
       refine wpAny_mono hrun (fun fl s6 hs => ?_) fun _ _ z => z.elim
       cases fl with
       | ret u =>
        obtain ⟨v, σ6, H6, J6, rv, q6⟩ := hs
        have J7 : Inv X pins σ6 H6 s6 := kn I.ok J6
        have hil : i < σ6.length := by rw [J7.len]; exact (List.getElem?_eq_some_iff.mp hi).1
        refine wpAny_bind (wpAny_bindName (dH J7 hN hi (.inl hl) (v := .non) rfl (fun s7 J8 => ?_) (.inr hl)))
        exact lJ J8 hN hi hl (v := .non) (List.getElem?_set_self hil) fun s8 J9 => ⟨v, _, H6, J9, rv, q6⟩
       | next => obtain ⟨_, _, _, z⟩ := hs; exact False.elim z
       | brk => obtain ⟨_, _, _, z⟩ := hs; exact False.elim z
       | cont => obtain ⟨_, _, _, z⟩ := hs; exact False.elim z
    · rw [if_neg hcm] at o
      exact o.elim
 · cases fl with
   | ret u =>
    obtain ⟨v, σ', H', I', rv, q⟩ := hs
    exact ⟨v, σ', H', eu I', rv, q⟩
   | next => obtain ⟨_, _, _, z⟩ := hs; exact False.elim z
   | brk => obtain ⟨_, _, _, z⟩ := hs; exact False.elim z
   | cont => obtain ⟨_, _, _, z⟩ := hs; exact False.elim z
end
end FD
namespace FD
open PySem PySem.Spec PyProof.Rows L2
def yu : List Dv → List Dv → Option (Rs Dv)
 | xs, [x] => if cG x && xs.all cG && decide (xs.length ≤ 100000) then some (.ok (.int (xs.countP (fun y => eqF y x) : Nat))) else none
 | _, _ => none
def vn : V → List V → Hp → VK → Prop := fun x xs H Q => ∃ a vs y, x = .ref a ∧ xs = [y] ∧ H a = some (.lst vs) ∧ b6 y = true ∧ vs.all b6 = true ∧ vs.length ≤ 100000 ∧ Q (.int (vs.countP (fun v => eqV v y) : Nat)) H
section
variable {X : Cx} {apos cpos : Pos} {e o : Expr} {es : List Expr} {ga : FnA} {fo : FnE}
theorem fu {y : V} : ∀ {vs : List V} {its : List Value}, Vals vs its → vs.all b6 = true → its.countP (eqU y) = vs.countP fun v => eqV v y
 | _, _, .nil, _ => rfl
 | _, _, .cons (a := v) (b := u) r t, f => by
  rw [List.all_cons, Bool.and_eq_true] at f
  rw [List.countP_cons, List.countP_cons, fu t f.2, jq r f.1]
theorem lL : MtR X "list.count" vn := by
 intro pins s σ H x xs v us Q I rx rs h
 obtain ⟨a, vs, y, rfl, rfl, h1, fy, fv, hz, q⟩ := h
 cases rx
 obtain ⟨u, rfl, ru⟩ := eg rs
 obtain ⟨z, its, n, rv, hl, e⟩ := I.lstM h1
 refine call_meets PySem.F.slot_list_count ⟨_, e, rfl⟩ PySem.F.entry_list_count (PySem.F.args_list_count_2 _ _) (SeqAt.list_countAt a its.toArray n none #[] u (eqU y)) ⟨e, fun t ht => bY ru fy rv fv t (by simpa using ht), ⟨.int (vs.countP (fun v => eqV v y) : Nat), H, I.tok _, ⟨s.toks, ?_⟩, q⟩⟩
 have := fu (y := y) rv fv
 rw [List.toList_toArray, this]
theorem pX {K : PySem.W.Frag} {H : Hp} {x : Dv} {u : V} (q : Rep K H x u) (hx : cG x = true) : ∀ {xs : List Dv} {vs : List V}, Reps K H xs vs → xs.all cG = true → vs.countP (fun v => eqV v u) = xs.countP fun y => eqF y x
 | [], vs, r, _ => by cases (show vs = [] from r); rfl
 | y :: ys, vs, r, f => by
  obtain ⟨v, ws, rfl, r1, r2⟩ : ∃ v us, vs = v :: us ∧ Rep K H y v ∧ Reps K H ys us := r
  rw [List.all_cons, Bool.and_eq_true] at f
  rw [List.countP_cons, List.countP_cons, pX q hx r2 f.2, lq r1 q f.1 hx]
theorem oy (ho : FE X o fo) (ha : FA X (e :: es) ga)
 (hbase : attributeBase o "count" X.env (eval o X.env) = eval o X.env := by kernel_rfl)
 (hfew : ((backTo cpos (starEach (e :: es) X.env)).all (fun x => !x.1) && (backToKw cpos (keywordEach [] X.env)).all (fun x => x.1.isSome)
   && decide ((e :: es).length + ([] : List Keyword).length + (if ([] : List Keyword).isEmpty then 0 else 1) < 30)) = true := by kernel_rfl)
 (hline : (apos.endLine == cpos.line) = true := by kernel_rfl) (hs : starEach (e :: es) X.env = (false, eval e X.env) :: starEach es X.env := by kernel_rfl) (hplain : (backTo cpos (starEach es X.env)).any (·.1) = false := by kernel_rfl) :
 FE X (.Call (.Attribute o "count" apos) (e :: es) [] cpos) (fML yu fo ga) :=
 bj (qN PySem.F.plainAttrs_list PySem.F.slot_list_count PySem.F.type_list_count lL ho.h ha.h hbase hfew hline hs hplain) fun σ H Q ρ E o => ⟨ρ, E, Out.bind o fun d v H1 e1 rd o1 => by
  cases d <;> try exact (show False from o1).elim
  rename_i ds
  obtain ⟨a, vs, rfl, h1, h2⟩ := rd.lstE
  refine ⟨.inl ⟨rfl, vs, SqL.of h1⟩, ρ, E.mono e1, OutA.bind o1 fun es ws H2 e2 rs o2 => ?_⟩
  unfold yu at o2
  split at o2
  · rename_i x
    split at o2
    · rename_i hc
      rw [Bool.and_eq_true, Bool.and_eq_true] at hc
      obtain ⟨w, rfl, rw'⟩ := cL rs
      have h2' := Reps.mono e2 _ _ h2
      refine ⟨a, vs, w, rfl, rfl, e2 _ _ h1, fR rw' hc.1.1, dL h2' hc.1.2, by rw [h2.length]; exact of_decide_eq_true hc.2, ?_⟩
      rw [pX rw' hc.1.1 h2' hc.1.2]
      exact o2 _ H2 (.refl H2) rfl
    · exact o2.elim
  · exact o2.elim⟩
end
section
variable {X : Cx} {a b c : Expr} {fa fb fc : FnE} {pos : Pos}
theorem vo {r r' : R2} {g g' : Dv → Dv → Option (Rs Dv)} (hg : GOp X r g) (hg' : GOp X r' g') {σ : L2.St} {H : Hp} {Q : VK} {ρ : Ev} (E : Envs X.K H σ ρ) (o : Out X H (fg g g' fa fb fc ρ) Q) : kY r r' (tF X fa) (tF X fb) (tF X fc) σ H Q :=
 ⟨ρ, E, Out.bind o fun dx x H1 e1 rx o1 => ⟨ρ, E.mono e1, Out.bind o1 fun dy y H2 e2 ry o2 => hg dx dy x y H2 _ (Rep.mono e2 dx x rx) ry (Out.bind o2 fun dz z H3 e3 rz o3 => by
  obtain ⟨k, rfl, o4⟩ := fP rz o3
  refine ⟨k, rfl, ?_⟩
  cases k with
  | false => exact nn (o4 (.bl false) H3 (.refl H3) rfl)
  | true => exact nq ⟨ρ, (E.mono e1).mono (e2.trans e3), Out.bind o4 fun dw w H4 e4 rw' o5 => hg' dy dw y w H4 Q (Rep.mono (e3.trans e4) dy y ry) rw' o5⟩)⟩⟩
theorem jE {op op' : CmpOp} {r r' : R2} {g g' : Dv → Dv → Option (Rs Dv)} (ho : OpR X (compareOp op) r) (hg : GOp X r g) (ho' : OpR X (compareOp op') r') (hg' : GOp X r' g') (ha : FE X a fa) (hb : FE X b fb) (hc : FE X c fc)
 (hm : lastMarks [op, op'] [b, c] = false := by kernel_rfl) : FT X (.Compare a [op, op'] [b, c] pos) (fB (fg g g' fa fb fc)) :=
 nO (nH ho ho' ha.h hb.h hc.h hm) fun σ H Q ρ E o => by
  show kY r r' (tF X fa) (tF X fb) (tF X fc) σ H _
  exact vo hg hg' E (Out.bindB o fun d v H' e r o' => dI r o')
end
def jF (x : Str) (n : Int) : Str := if n < 1 then Str.empty else if (n == 1 || x.length == 0) = true then x else ⟨(List.replicate n.toNat x.cps).foldl (· ++ ·) #[]⟩
def vp : Dv → Dv → Option (Rs Dv)
 | .str x, .int n => if x.length ≤ 1000 ∧ -1000 ≤ n ∧ n ≤ 1000 then some (.ok (.str (jF x n))) else none
 | x, y => dh x y
section
variable {X : Cx}
def rg : R2 := fun x y H Q => ∃ i n, x = .str i ∧ y = .int n ∧ (i.length ≤ 1000 ∧ -1000 ≤ n ∧ n ≤ 1000) ∧ Q (.str (jF i n)) H
theorem jG (a : Array Nat) : ∀ (k : Nat) (acc : Array Nat), ((List.replicate k a).foldl (· ++ ·) acc).size = acc.size + k * a.size
 | 0, acc => by simp
 | k + 1, acc => by
  rw [List.replicate_succ, List.foldl_cons, jG a k (acc ++ a), Array.size_append, Nat.succ_mul]
  omega
theorem lM {a n : Nat} (h1 : a ≤ 1000) (h2 : n ≤ 1000) : n * a ≤ sizeLine := by
 have h3 : n * a ≤ 1000 * 1000 := Nat.mul_le_mul h2 h1
 rw [sizeLine_eq]
 exact Nat.le_trans h3 (by decide)
theorem op_mulS : OpR X (binaryOp .Mult) rg := by
 intro pins s σ H x y v u Q I rx ry ⟨i, n, hx, hy, hc, q⟩
 subst hx hy
 obtain ⟨t, rfl⟩ := rx
 obtain ⟨t2, rfl⟩ := ry
 have h0 : (decide (n < -(2 ^ 63 : Int)) || decide (n ≥ 2 ^ 63)) = false := by
  have h1 : ¬ n < -(2 ^ 63 : Int) := by omega
  have h2 : ¬ n ≥ 2 ^ 63 := by omega
  rw [decide_eq_false h1, decide_eq_false h2]; rfl
 refine P.mul_str h0 (fun h1 h2 h3 => ?_) (fun h1 h2 => ?_) ?_
 · have hn : 0 < n := by omega
   have e1 := Int.mul_ediv_add_emod (2 ^ 63 - 1) n
   have e2 := Int.emod_lt_of_pos (2 ^ 63 - 1) hn
   have hq : (2 ^ 63 - 1 : Int) / n < 1000 := by omega
   have hq0 : 0 ≤ (2 ^ 63 - 1 : Int) / n := Int.ediv_nonneg (by decide) (by omega)
   have h4 : n * ((2 ^ 63 - 1 : Int) / n) ≤ 1000 * ((2 ^ 63 - 1 : Int) / n) := Int.mul_le_mul_of_nonneg_right hc.2.2 hq0
   omega
 · show decide (i.length * n.toNat > sizeLine) = false
   have := lM (a := i.length) (n := n.toNat) hc.1 (by omega)
   rw [Nat.mul_comm]
   exact decide_eq_false (by omega)
 · unfold jF at q
   split
   · rename_i h1
     rw [if_pos h1] at q
     exact ⟨by decide, ⟨.str Str.empty, H, I.tok _, ⟨_, rfl⟩, q⟩⟩
   · rename_i h1
     rw [if_neg h1] at q
     split
     · rename_i h2
       rw [if_pos h2] at q
       exact ⟨.str i, H, I, ⟨_, rfl⟩, q⟩
     · rename_i h2
       rw [if_neg h2] at q
       refine ⟨?_, ⟨.str _, H, I.tok _, ⟨_, rfl⟩, q⟩⟩
       show ((List.replicate n.toNat i.cps).foldl (· ++ ·) #[]).size ≤ sizeLine
       rw [jG]
       have := lM (a := i.length) (n := n.toNat) hc.1 (by omega)
       have e : i.cps.size = i.length := rfl
       rw [e]
       simpa using this
theorem vq : OpR X (binaryOp .Mult) (fun x y H Q => rg x y H Q ∨ rI CMul (fun i j => .int (i * j)) x y H Q) := op_mulS.or pC
theorem vt : GOp X (fun x y H Q => rg x y H Q ∨ rI CMul (fun i j => .int (i * j)) x y H Q) vp := by
 intro dx dy x y H Q rx ry o
 cases dx with
 | str i =>
  cases dy with
  | int n =>
   have o2 : Out X H (if i.length ≤ 1000 ∧ -1000 ≤ n ∧ n ≤ 1000 then some (.ok (.str (jF i n))) else none) Q := o
   by_cases hc : i.length ≤ 1000 ∧ -1000 ≤ n ∧ n ≤ 1000
   · rw [if_pos hc] at o2
     exact .inl ⟨i, n, rx, ry, hc, o2 _ H (.refl H) rfl⟩
   · rw [if_neg hc] at o2
     exact o2.elim
  | _ => exact (show False from o).elim
 | _ => exact .inr (uI _ _ x y H Q rx ry o)
end
end FD
namespace FD
open PySem PySem.Spec PyProof.Rows L2 PySem.W
def xiB (K : PySem.W.Frag) (C : Addr) : Bool := findIn K (.ref C) "__getattribute__" == some (some (.builtin "BaseException.__getattribute__")) && findIn K (.ref C) "__getattr__" == some none && findIn K (.ref C) "__class__" == some (some (.builtin "object.__class__")) &&
 specialIn K (.builtin "object.__class__") "__get__" == some (some (.builtin "getset_descriptor.__get__")) && takesIn K (.builtin "object.__class__") == some true && mroIn K C (.type "object") == some true && mroIn K C (.type "BaseException") == some true
theorem yw {K : PySem.W.Frag} {C : Addr} (h : xiB K C = true) : XI K C := by
 unfold xiB at h
 simp only [Bool.and_eq_true, beq_iff_eq] at h
 exact ⟨h.1.1.1.1.1.1, h.1.1.1.1.1.2, h.1.1.1.1.2, h.1.1.1.2, h.1.1.2, h.1.2, h.2⟩
structure XAll (K : PySem.W.Frag) (m : Nat) (cls : Nat → Addr) (CJ : Addr) : Prop where
 at_ : ∀ c, c < m → nsIn K mainGlobals (xnm c) = some (some (.ref (cls c))) ∧ excIn K (cls c) bmV "ValueError.__new__" = true ∧ XI K (cls c) ∧ mroIn K (cls c) (.ref CJ) = some true ∧ kitOne K (.ref (cls c)) (.type "ValueError") = some true ∧ ∀ d, d < m → kitOne K (.ref (cls c)) (.ref (cls d)) = some (c == d)
 exJ : excIn K CJ bmV "ValueError.__new__" = true
section
variable {K : PySem.W.Frag} {m : Nat} {cls : Nat → Addr} {CJ : Addr} (x : XAll K m cls CJ)
include x
theorem XAll.xc (c : Nat) (h : c < m) : XC K c (cls c) := ⟨(x.at_ c h).1, (x.at_ c h).2.1⟩
theorem XAll.same {c : Nat} {C : Addr} (h : c < m) (q : nsIn K mainGlobals (xnm c) = some (some (.ref C))) : C = cls c := by
 have z := (x.at_ c h).1
 rw [q] at z
 cases z
 rfl
theorem XAll.xk : ∀ c C, c < m → nsIn K mainGlobals (xnm c) = some (some (.ref C)) → excIn K C bmV "ValueError.__new__" = true ∧ mroIn K C (.ref CJ) = some true := fun c C h q => by
 rw [x.same h q]
 exact ⟨(x.at_ c h).2.1, (x.at_ c h).2.2.2.1⟩
theorem XAll.xtO (d : Nat) (hd : d < m) : XT K (fun c => if c < m then some (c == d) else none) (.ref (cls d)) := fun c b hb C q => by
 dsimp only at hb
 split at hb
 · rename_i h
   cases hb
   rw [x.same h q]
   exact ⟨(x.at_ c h).2.2.1, (x.at_ c h).2.2.2.2.2 d hd⟩
 · cases hb
theorem XAll.xtV : XT K (fun c => if c < m then some true else none) (.type "ValueError") := fun c b hb C q => by
 dsimp only at hb
 split at hb
 · rename_i h
   cases hb
   rw [x.same h q]
   exact ⟨(x.at_ c h).2.2.1, (x.at_ c h).2.2.2.2.1⟩
 · cases hb
end
end FD
namespace FD
open PySem
theorem fZ : bootBuiltins (Str.ofString "ValueError") = some (.type "ValueError") := by kernel_rfl
end FD
namespace FD
open PySem PySem.Spec PyProof.Rows L2
def ez : Str → List Dv → Option (Rs Dv)
 | x, [.str y] => if x.length ≤ 100000 then some (.ok (.str (Txt.stripChars x y))) else none
 | _, _ => none
def pY : V → List V → Hp → VK → Prop := fun x xs H Q => ∃ i j, x = .str i ∧ xs = [.str j] ∧ i.length ≤ sizeLine ∧ Q (.str (Txt.stripChars i j)) H
section
variable {X : Cx}
theorem jH : MtR X "str.strip" pY := by
 intro pins s σ H x xs v us Q I rx rs h
 obtain ⟨i, j, rfl, rfl, hl, q⟩ := h
 obtain ⟨t, rfl⟩ := rx
 obtain ⟨u, rfl, ru⟩ := eg rs
 obtain ⟨t', rfl⟩ := ru
 exact SC.stripChars (fun t2 k => ⟨.str _, H, I.tok k, ⟨_, rfl⟩, q⟩) hl
theorem lN (i : Str) (ds : List Dv) (vs : List V) (H : Hp) (Q : VK) (rs : Reps X.K H ds vs) (o : Out X H (ez i ds) Q) : pY (.str i) vs H Q := by
 unfold ez at o
 split at o
 · rename_i j
   split at o
   · rename_i hl
     obtain ⟨w, rfl, rw'⟩ := cL rs
     cases (show w = .str j from rw')
     exact ⟨i, j, rfl, rfl, aI hl, o _ H (.refl H) rfl⟩
   · exact o.elim
 · exact o.elim
end
section
variable {X : Cx}
def bn (x y : Dv) : Option (Rs Dv) := match x, y with
 | .tup a, .tup b => if a.length + b.length ≤ 100000 then some (.ok (.tup (a ++ b))) else none
 | x, y => cJ x y
theorem oz {prog : Program} {w : World} {A : Around} {E : Value → Shared → Prop} {s : Shared} {t b : Addr} {ws : List Value} {Q : Value → Shared → Prop} (ht : IsTup s.heap t #[]) (hb : IsTup s.heap b ws.toArray) (h0 : Q (.ref b) s) :
 wpAny (model prog w) A (binaryOp .Add (.ref t) (.ref b)) Q E s := by
 obtain ⟨⟨cls, dd, data, sl⟩, ho, hc, n, hd⟩ := id ht
 obtain ⟨⟨cls2, dd2, data2, sl2⟩, ho2, hc2, n2, hd2⟩ := id hb
 simp only at hc hd hc2 hd2
 subst hc hd hc2 hd2
 exact concat_meets ⟨_, ho, rfl⟩ ⟨_, ho2, rfl⟩ noFill_tuple_add seq_tuple_add PySem.F.slot_tuple_add PySem.F.entry_tuple_add (PySem.F.args_tuple_add_2 _ _)
  (tuple_addW0 t b #[] ws.toArray n n2 dd dd2 sl sl2 (by simp)) ⟨ho, ho2, h0⟩
def pZ (K : PySem.W.Frag) : R2 := fun x y H Q => ∃ a b ys, x = .ref a ∧ y = .ref b ∧ SqT K H a [] ∧ SqT K H b ys ∧ Q (.ref b) H
theorem oA : OpR X (binaryOp .Add) (pZ X.K) := by
 intro pins s σ H x y v u Q I rx ry h
 obtain ⟨a, b, ys, rfl, rfl, ha, hb, q⟩ := h
 cases rx
 cases ry
 obtain ⟨its, r1, p1, _⟩ := I.tuple ha
 obtain ⟨its2, r2, p2, _⟩ := I.tuple hb
 cases r1
 exact oz p1 p2 ⟨.ref b, H, I, rfl, q⟩
def vv (X : Cx) : R2 := fun x y H Q => qT x y H Q ∨ (uh X.K x y H Q ∨ pZ X.K x y H Q)
theorem p4 : OpR X (binaryOp .Add) (vv X) := o_add.or (op_catT.or oA)
theorem lO {x y : Dv} (h : ∀ a b, ¬ (x = .tup a ∧ y = .tup b)) : bn x y = cJ x y := by
 unfold bn
 split
 · rename_i a b
   exact absurd ⟨rfl, rfl⟩ (h a b)
 · rfl
theorem p5 : GOp X (vv X) bn := by
 intro dx dy x y H Q rx ry o
 by_cases hc : ∃ a b, dx = .tup a ∧ dy = .tup b
 · obtain ⟨a, b, rfl, rfl⟩ := hc
   have o' : Out X H (if a.length + b.length ≤ 100000 then some (.ok (.tup (a ++ b))) else none) Q := o
   split at o'
   · rename_i hl
     obtain ⟨p, xs, rfl, h1, q1⟩ := rx.tupE
     obtain ⟨p2, ys, rfl, h2, q2⟩ := ry.tupE
     cases xs with
     | nil =>
      have ha : a = [] := by
       have := q1.length
       exact List.length_eq_zero_iff.mp this.symm
      subst ha
      exact .inr (.inr ⟨p, p2, ys, rfl, rfl, SqT.of h1, SqT.of h2, o' _ H (.refl H) ⟨p2, ys, rfl, h2, by simpa using q2⟩⟩)
     | cons x0 xs =>
      refine .inr (.inl ⟨p, p2, x0 :: xs, ys, rfl, rfl, SqT.of h1, SqT.of h2, by simp, by rw [q1.length, q2.length]; exact aI hl, fun hy => ?_, fun hy l hl => o' _ _ (ao hl _) ⟨l, _, rfl, am, Reps.mono (ao hl _) _ _ (q1.append q2)⟩⟩)
      subst hy
      have hb : b = [] := List.length_eq_zero_iff.mp q2.length.symm
      subst hb
      exact o' _ H (.refl H) ⟨p, _, rfl, h1, by simpa using q1⟩
   · exact o'.elim
 · rw [lO (fun a b h => hc ⟨a, b, h⟩)] at o
   exact .inl (uH dx dy x y H Q rx ry o)
theorem cM {prog : Program} {w : World} {A : Around} {E : Value → Shared → Prop} {s : Shared} {t sl : Addr} {items : Array Value} {vl vu : Value} {lo hi : Option Int} {Q : Value → Shared → Prop} (ht : IsTup s.heap t items) (hs : s.heap.IsSliceOf sl vl vu .none) (pl : IsPart vl lo) (pu : IsPart vu hi)
 (hw : HT.sIx items.size 0 lo = 0 ∧ HT.sIx items.size items.size hi = items.size) (h : Q (.ref t) s) : wpAny (model prog w) A (getItem (.ref t) (.ref sl)) Q E s := by
 obtain ⟨os, hos, hcs, hds⟩ := id hs
 have hTs : s.TypeIs (.ref sl) "slice" := ⟨os, hos, hcs⟩
 unfold getItem
 try with_reducible refine wpAny_holding ?_
 first | refine wpAny_bind (wpAny_pure ?_) | skip
 refine wpAny_bind (wpAny_sequenceKey ht.typeIs (by decide) ?_)
 refine wpAny_bind (wpAny_callSpecial?_slot (name := Str.ofString "__getitem__") ht.typeIs PyProof.Rows.slot_tuple_getitem
  (wpAny_call_entry PyProof.Rows.slot_tuple_getitem ht.typeIs entry_tuple_getitem ?_ (args_tuple_getitem _ _)))
 show wpAny _ _ (Builtin.Tuple.tupleItemsOf (.ref t) >>= _) _ _ s
 refine wpAny_bind (tupleItemsOf_ ht ?_)
 refine wpAny_bind (wpAny_typeOf hTs ?_)
 rw [if_pos (by decide)]
 refine wpAny_bind (HT.sliceApplied_gen hs pl pu ?_)
 have hyes : (((HT.sIx items.size 0 lo : Nat) : Int) == 0 && (1 : Int) == 1 && (HT.sIx items.size items.size hi - HT.sIx items.size 0 lo) == items.size) = true := by
  rw [hw.1, hw.2]
  simp
 show wpAny _ _ (if (((HT.sIx items.size 0 lo : Nat) : Int) == 0 && (1 : Int) == 1 && (HT.sIx items.size items.size hi - HT.sIx items.size 0 lo) == items.size) = true then _ else _) _ _ s
 rw [if_pos hyes]
 refine wpAny_bind (wpAny_bind (wpAny_typeOf ht.typeIs (wpAny_pure ?_)))
 rw [if_pos (by decide)]
 exact wpAny_bind (wpAny_rule (wpAny_pure ⟨_, rfl, wpAny_pure h⟩))
def zY (K : PySem.W.Frag) : V → Option Int → Option Int → Hp → VK → Prop := fun x lo hi H Q => ∃ a xs, x = .ref a ∧ SqT K H a xs ∧
 (HT.sIx xs.length 0 lo = 0 ∧ HT.sIx xs.length xs.length hi = xs.length) ∧ Q (.ref a) H
theorem oB : SlR X (zY X.K) := by
 intro pins s σ H x v vl vu lo hi sl Q I rx hs pl pu h
 obtain ⟨a, xs, rfl, hx, hw, q⟩ := h
 cases rx
 obtain ⟨its, r, ht, hz⟩ := I.tuple hx
 have hlen : its.toArray.size = xs.length := by rw [List.size_toArray]; exact r.length.symm
 refine ⟨"tuple", _, PyProof.Rows.slot_tuple_getitem.lookup, ht.typeIs, ?_⟩
 exact cM ht hs pl pu (by rw [hlen]; exact hw) ⟨.ref a, H, I, rfl, q⟩
def yx (x : Dv) (lo hi : Option Int) : Option (Rs Dv) := match x with
 | .tup xs => some (.ok (.tup (lx xs lo hi)))
 | x => xf x lo hi
def bp (fa : FnE) (fl fh : FnO) : FnE := fun ρ => bnd (fa ρ) fun x => bnd (fl ρ) fun lo => bnd (fh ρ) fun hi => yx x lo hi
theorem ko {α : Type} {xs : List α} {lo hi : Option Int} (h : HT.sIx xs.length 0 lo = 0 ∧ HT.sIx xs.length xs.length hi = xs.length) : lx xs lo hi = xs := by
 unfold lx
 rw [h.1, h.2]
 simp
theorem lP {a : Expr} {lo hi : Option Expr} {fa : FnE} {fl fh : FnO} {p2 pos : Pos} (ha : FE X a fa) (hl : FO X lo fl) (hh : FO X hi fh) : FE X (.Subscript a (.Slice lo hi none p2) pos) (bp fa fl fh) :=
 bj (jp ((sl_str.or la).or (sl_tup.or oB)) ha.h hl.h hh.h) fun σ H Q ρ E o => ⟨ρ, E, Out.bind o fun d v H1 e1 r1 o1 => ⟨ρ, E.mono e1, cY o1 fun l H2 e2 o2 => ⟨ρ, (E.mono e1).mono e2, cY o2 fun u H3 e3 o3 => by
  have r3 := Rep.mono e3 d v (Rep.mono e2 d v r1)
  cases d <;> try exact (show False from o3).elim
  · rename_i z
    unfold yx xf at o3
    dsimp only at o3
    split at o3
    · rename_i hz
      exact .inl (.inl ⟨z, r3, aI hz, o3 _ H3 (.refl H3) rfl⟩)
    · exact o3.elim
  · rename_i ds
    obtain ⟨a', xs, rfl, h1, h2⟩ := r3.tupE
    have hlen := h2.length
    by_cases hw : HT.sIx xs.length 0 l = 0 ∧ HT.sIx xs.length xs.length u = xs.length
    · refine .inr (.inr ⟨a', xs, rfl, SqT.of h1, hw, o3 _ H3 (.refl H3) ⟨a', xs, rfl, h1, ?_⟩⟩)
      rw [ko (by rw [← hlen]; exact hw)]
      exact h2
    · refine .inr (.inl ⟨a', xs, rfl, SqT.of h1, hw, fun p hp => o3 _ _ (ao hp _) ⟨p, _, rfl, am, Reps.mono (ao hp _) _ _ ?_⟩⟩)
      unfold nK lx
      rw [h2.length]
      exact (h2.drop _).take _
  · rename_i ds
    obtain ⟨a', xs, rfl, h1, h2⟩ := r3.lstE
    refine .inl (.inr ⟨a', xs, rfl, SqL.of h1, fun p hp => o3 _ _ (ao hp _) ⟨p, _, rfl, am, Reps.mono (ao hp _) _ _ ?_⟩⟩)
    unfold nK lx
    rw [h2.length]
    exact (h2.drop _).take _⟩⟩⟩
theorem Reps.reverse {K : PySem.W.Frag} {H : Hp} : ∀ {ds : List Dv} {vs : List V}, Reps K H ds vs → Reps K H ds.reverse vs.reverse
 | [], vs, r => by cases (show vs = [] from r); exact r
 | d :: ds, vs, r => by
  obtain ⟨v, us, rfl, r1, r2⟩ : ∃ v us, vs = v :: us ∧ Rep K H d v ∧ Reps K H ds us := r
  rw [List.reverse_cons, List.reverse_cons]
  exact (Reps.reverse r2).append ⟨v, [], rfl, r1, rfl⟩
theorem Vals.reverse : ∀ {xs : List V} {us : List Value}, Vals xs us → Vals xs.reverse us.reverse
 | _, _, .nil => .nil
 | x :: xs, u :: us, .cons r t => by
  rw [List.reverse_cons, List.reverse_cons]
  exact (Vals.reverse t).append (.cons r .nil)
def inP (x : Dv) (ys : List Dv) : Option Bool := if okP x && decide ((bI x).depth ≤ 63) && PyData.canLayAll0 (toPys ys) then some ((toPys ys).any fun y => PyData.eqv y (bI x)) else none
def zq (x y : Dv) : Option Bool := match sU x y with
 | some b => some b
 | none => match y with
  | .lst ys => inP x ys
  | .tup ys => inP x ys
  | _ => none
def inX (x y : Dv) : Option (Rs Dv) := match zq x y with
 | some b => some (.ok (.bl b))
 | none => none
def zr (X : Cx) (neg : Bool) : R2 := fun x y H Q => ∃ dx ys b, Rep X.K H dx x ∧ (Rep X.K H (.lst ys) y ∨ Rep X.K H (.tup ys) y) ∧ inP dx ys = some b ∧ Q (.bl (if neg then !b else b)) H
theorem vw (hu : X.A.units + 64 < cLine) : OpR X (compareOp .In) (zr X false) := by
 intro pins s σ H x y v u Q I rx ry h
 obtain ⟨dx, ys, b, qx, qy, hb, q⟩ := h
 unfold inP at hb
 split at hb
 · rename_i hc
   cases hb
   obtain ⟨⟨c1, c2⟩, c3⟩ : (okP dx = true ∧ (bI dx).depth ≤ 63) ∧ PyData.canLayAll0 (toPys ys) = true := by simpa using hc
   obtain ⟨as, ra⟩ := Rep.reads I dx x v qx rx (Bool.and_eq_true_iff.mp c1).1
   have hd : X.A.units + 1 + min (PyData.depthAll (toPys ys)) (bI dx).depth < cLine := by
    have := Nat.min_le_right (PyData.depthAll (toPys ys)) (bI dx).depth
    omega
   rcases qy with qy | qy
   · obtain ⟨bs, rb⟩ := Rep.reads I (.lst ys) y u qy ry (by simpa [bI, PyData.canLay0] using c3)
     exact SeqAt.in_list_reads rb ra c3 (Bool.and_eq_true_iff.mp c1).1 hd ⟨.bl _, H, I, rfl, q⟩
   · obtain ⟨bs, rb⟩ := Rep.reads I (.tup ys) y u qy ry (by simpa [bI, PyData.canLay0] using c3)
     exact SeqAt.in_tuple_reads rb ra c3 (Bool.and_eq_true_iff.mp c1).1 hd ⟨.bl _, H, I, rfl, q⟩
 · cases hb
def zt (X : Cx) : R2 := fun x y H Q => yd X.K x y H Q ∨ zr X false x y H Q
theorem vx (hu : X.A.units + 64 < cLine) : OpR X (compareOp .In) (zt X) := o_in.or (vw hu)
theorem vy : GOp X (zt X) inX := by
 intro dx dy x y H Q rx ry o
 unfold inX zq at o
 match h0 : sU dx dy with
 | some b =>
  rw [h0] at o
  exact .inl (ye dx dy x y H Q rx ry (by unfold inD; rw [h0]; exact o))
 | none =>
  rw [h0] at o
  cases dy <;> try exact (show False from o).elim
  · rename_i ys
    match hp : inP dx ys with
    | none => simp only [hp] at o; exact (show False from o).elim
    | some b => simp only [hp] at o; exact .inr ⟨dx, ys, b, rx, .inr ry, hp, o _ H (.refl H) rfl⟩
  · rename_i ys
    match hp : inP dx ys with
    | none => simp only [hp] at o; exact (show False from o).elim
    | some b => simp only [hp] at o; exact .inr ⟨dx, ys, b, rx, .inl ry, hp, o _ H (.refl H) rfl⟩
end
abbrev vz (its : List Value) (n : Nat) : Obj := { cls := .type "list", data := .seq its.toArray n }
section
variable {X : Cx} {pins : List (Addr × Obj)} {σ : L2.St} {H : Hp} {s : Shared} {a : Addr} {xs : List V}
theorem Inv.untrack (I : Inv X pins σ (upd H a (.lst xs)) s) (ha : H a = none) (hex : X.ex = []) : ∃ its n, Vals xs its ∧ xs.length ≤ sizeLine ∧ (∀ o, X.s₀.heap.get? a = some o → X.H₀ a ≠ none) ∧ (∀ p ∈ X.pn ++ pins, p.1 ≠ a) ∧ Inv X (pins ++ [(a, vz its n)]) σ H s := by
 obtain ⟨z, its, n, rv, hl, e⟩ := I.lstM (l := a) (xs := xs) am
 have hb : ∀ b u, H b = some u → b ≠ a := fun b u q => aj q ha
 have low : ∀ b, upd H a (.lst xs) b = none → H b = none := fun b q => by
  by_cases hba : b = a
  · rw [hba]; exact ha
  · rw [ak hba] at q; exact q
 have dn : ∀ b u, upd H a (.lst xs) b = some u → (∀ ys, u ≠ .lst ys) → H b = some u := fun b u q hu => by
  by_cases hba : b = a
  · rw [hba, am] at q
    exact absurd (Option.some.inj q).symm (hu xs)
  · rw [ak hba] at q; exact q
 have nfs : a ∉ X.fs := fun hm => by
  obtain ⟨_, o, ho, _⟩ := I.ok.funs.mem hm
  have := I.base.free a o ho (I.ok.frf a hm) (by rw [hex]; simp)
  rw [am] at this
  cases this
 have npin : ∀ p ∈ X.pn ++ pins, p.1 ≠ a := fun p hp w => by
  have := (I.pin p hp).2.1
  rw [w, am] at this
  cases this
 refine ⟨its, n, rv, z, fun o ho h0 => ?_, npin, ⟨I.ok, I.os, I.bare, ⟨I.base.keep, I.base.slot, fun b o q n hx => low b (I.base.free b o q n hx), I.base.there, fun b ys q => dn b _ (I.base.tups b ys q) (fun _ w => by cases w), fun b o u q => dn b _ (I.base.frzs b o u q) (fun _ w => by cases w), fun b ps q => ?_⟩, I.loc, I.cell, low _ I.free, fun x c q => low _ (I.freeC x c q), fun p hp => ?_, fun b u q => ?_, I.len⟩⟩
 · have := I.base.free a o ho h0 (by rw [hex]; simp)
   rw [am] at this
   cases this
 · obtain ⟨more, q'⟩ := I.base.tbls b ps q
   exact ⟨more, dn b _ q' (fun _ w => by cases w)⟩
 · rcases List.mem_append.mp hp with h1 | h1
   · obtain ⟨q1, q2, q3⟩ := I.pin p (List.mem_append_left _ h1)
     exact ⟨q1, low _ q2, q3⟩
   · rcases List.mem_append.mp h1 with h1 | h1
     · obtain ⟨q1, q2, q3⟩ := I.pin p (List.mem_append_right _ h1)
       exact ⟨q1, low _ q2, q3⟩
     · simp only [List.mem_singleton] at h1
       subst h1
       refine ⟨e, ha, fun w => ?_, nfs, fun v w => by cases w⟩
       obtain ⟨m, ⟨o, es, ep, ho, hd, _⟩, _⟩ := I.loc
       have w' : a = X.env.locals := w
       rw [← w', e] at ho
       cases ho
       cases hd
 · have hq : upd H a (.lst xs) b = some u := by rw [ak (hb b u q)]; exact q
   refine (I.hok b u hq).stay (fun _ _ _ w => w) (fun c w => dn c _ w (fun _ w => by cases w)) (fun c ys w => dn c _ w (fun _ w => by cases w)) fun c _ _ w => dn c _ w (fun _ w => by cases w)
theorem Inv.retrack {its : List Value} {n : Nat} (I : Inv X (pins ++ [(a, vz its n)]) σ H s) (rv : Vals xs its) (hz : xs.length ≤ sizeLine) (h0 : ∀ o, X.s₀.heap.get? a = some o → X.H₀ a ≠ none) (hp0 : ∀ p ∈ X.pn ++ pins, p.1 ≠ a) : H a = none ∧ Inv X pins σ (upd H a (.lst xs)) s := by
 obtain ⟨e, ha, nL, nf, nc⟩ := I.pin (a, vz its n) (List.mem_append_right _ (List.mem_append_right _ (by simp)))
 have up : ∀ b u, H b = some u → upd H a (.lst xs) b = some u := fun b u q => by rw [ak (aj q ha)]; exact q
 have lo : ∀ b, H b = none → b ≠ a → upd H a (.lst xs) b = none := fun b q h => by rw [ak h]; exact q
 refine ⟨ha, ⟨I.ok, I.os, I.bare, ⟨I.base.keep, I.base.slot, fun b o q n hx => lo b (I.base.free b o q n hx) (fun w => h0 o (w ▸ q) (w ▸ n)), I.base.there, fun b ys q => up b _ (I.base.tups b ys q), fun b o u q => up b _ (I.base.frzs b o u q), fun b ps q => ?_⟩, I.loc, I.cell, lo _ I.free (Ne.symm nL), fun x c q => lo _ (I.freeC x c q) (fun w => ?_), fun p hp => ?_, fun b u q => ?_, I.len⟩⟩
 · obtain ⟨more, q'⟩ := I.base.tbls b ps q
   exact ⟨more, up b _ q'⟩
 · obtain ⟨v, o, ho, hd⟩ := I.cell x c q
   rw [w] at ho
   have e' : s.heap.get? a = some (vz its n) := e
   rw [e'] at ho
   cases ho
   cases hd
 · obtain ⟨q1, q2, q3⟩ := I.pin p (by
    rcases List.mem_append.mp hp with h1 | h1
    · exact List.mem_append_left _ h1
    · exact List.mem_append_right _ (List.mem_append_left _ h1))
   exact ⟨q1, lo _ q2 (hp0 p hp), q3⟩
 · by_cases hb : b = a
   · subst hb
     rw [am] at q
     cases q
     exact ⟨hz, its, n, rv, e⟩
   · rw [ak hb] at q
     exact (I.hok b u q).stay (fun _ _ _ w => w) (fun c w => up c _ w) (fun c ys w => up c _ w) fun c _ _ w => up c _ w
end
def yy (t : TE) : TE := fun σ Hf Q => ∃ H a xs, Hf = upd H a (.lst xs) ∧ H a = none ∧ t σ H fun v H' => H' a = none → Q v (upd H' a (.lst xs))
def yz (t : TT) : TT := fun σ Hf Q => ∃ H a xs, Hf = upd H a (.lst xs) ∧ H a = none ∧ t σ H fun v H' => H' a = none → Q v (upd H' a (.lst xs))
def yA (t : TI) : TI := fun σ Hf Q => ∃ H a xs, Hf = upd H a (.lst xs) ∧ H a = none ∧ t σ H fun v H' => H' a = none → Q v (upd H' a (.lst xs))
section
variable {X : Cx} {e : Expr} {es : List Expr}
theorem iH (hex : X.ex = []) {t : TE} (h : PE X e t) : PE X e (yy t) := by
 intro pins s σ Hf Q I ⟨H, a, xs, e1, ha, q⟩
 subst e1
 obtain ⟨its, n, rv, hz, h0, hp, I'⟩ := Inv.untrack I ha hex
 refine thn (h _ s σ H _ I' q) fun u s' ⟨v, H', I2, r, q2⟩ => ?_
 obtain ⟨ha', I3⟩ := Inv.retrack I2 rv hz h0 hp
 exact ⟨v, _, I3, r, q2 ha'⟩
theorem rh (hex : X.ex = []) {t : TT} (h : PT X e t) : PT X e (yz t) := by
 intro pins s σ Hf Q I ⟨H, a, xs, e1, ha, q⟩
 subst e1
 obtain ⟨its, n, rv, hz, h0, hp, I'⟩ := Inv.untrack I ha hex
 refine thn (h _ s σ H _ I' q) fun u s' ⟨H', I2, q2⟩ => ?_
 obtain ⟨ha', I3⟩ := Inv.retrack I2 rv hz h0 hp
 exact ⟨_, I3, q2 ha'⟩
theorem rj (hex : X.ex = []) {tg : Expr} {t : TI} (h : PI X tg e t) : PI X tg e (yA t) := by
 intro pins s σ Hf R I ⟨H, a, xs, e1, ha, q⟩
 subst e1
 obtain ⟨its, n, rv, hz, h0, hp, I'⟩ := Inv.untrack I ha hex
 refine thn (h _ s σ H _ I' q) fun u s1 hs1 => thn hs1 fun itv s2 ⟨it, fp, tn, J, H', e2, I2, T, t0, fpo, q2⟩ => ?_
 obtain ⟨ha', I3⟩ := Inv.retrack I2 rv hz h0 hp
 refine ⟨it, fp, tn, J, _, e2, I3, T, t0, fun b hb => ?_, q2 ha'⟩
 obtain ⟨g0, g1, g2, g3, g4, g5⟩ := fpo b hb
 have hba : b ≠ a := fun w => g5 (a, vz its n) (List.mem_append_right _ (List.mem_append_right _ (by simp))) w.symm
 refine ⟨by rw [ak hba]; exact g0, g1, g2, g3, g4, fun p hp' => g5 p ?_⟩
 rcases List.mem_append.mp hp' with w | w
 · exact List.mem_append_left _ w
 · exact List.mem_append_right _ (List.mem_append_left _ w)
end
mutual
def imm : Dv → Bool
 | .non => true
 | .bl _ => true
 | .int _ => true
 | .str _ => true
 | .tup ds => imms ds
 | .lst _ => false
 | .scr _ => false
 | .exn _ => false
def imms : List Dv → Bool
 | [] => true
 | d :: ds => imm d && imms ds
end
section
variable {K : PySem.W.Frag} {H H' : Hp}
mutual
theorem Rep.tups (k : ∀ b ys, H b = some (.tup ys) → H' b = some (.tup ys)) : ∀ (d : Dv) (v : V), imm d = true → Rep K H d v → Rep K H' d v
 | .non, _, _, h => h
 | .bl _, _, _, h => h
 | .int _, _, _, h => h
 | .str _, _, _, h => h
 | .tup ds, v, i, h => by
  obtain ⟨a, xs, r, h, q⟩ := h.tupE
  exact ⟨a, xs, r, k _ _ h, Reps.tups k ds xs (by simpa [imm] using i) q⟩
 | .lst _, _, i, _ => by simp [imm] at i
 | .scr _, _, i, _ => by simp [imm] at i
 | .exn _, _, i, _ => by simp [imm] at i
theorem Reps.tups (k : ∀ b ys, H b = some (.tup ys) → H' b = some (.tup ys)) : ∀ (ds : List Dv) (vs : List V), imms ds = true → Reps K H ds vs → Reps K H' ds vs
 | [], _, _, h => h
 | d :: ds, vs, i, h => by
  obtain ⟨v, us, r, h, q⟩ : ∃ v us, vs = v :: us ∧ Rep K H d v ∧ Reps K H ds us := h
  have i' : imm d = true ∧ imms ds = true := by simpa [imms] using i
  exact ⟨v, us, r, Rep.tups k d v i'.1 h, Reps.tups k ds us i'.2 q⟩
end
end
inductive Fo where
 | nx (ρ : Ev) (ds : List Dv)
 | rt (d : Dv)
abbrev eT := Ev → List Dv → Option Fo
def OutW (X : Cx) (i : Nat) (a : Addr) (H : Hp) (o : Option Fo) (D : jh) : Prop := match o with
 | none => False
 | some (.rt d) => ∀ v H', Same H H' → Rep X.K H' d v → D.rt v H'
 | some (.nx ρ ds) => ∀ σ H' xs, Same H H' → H' a = none → σ[i]? = some (some (.ref a)) → Envs X.K H' σ ρ → Reps X.K H' ds xs → D.nx σ (upd H' a (.lst xs))
theorem OutW.mono {X : Cx} {i : Nat} {a : Addr} {H H' : Hp} {D : jh} (e : Same H H') : ∀ {o : Option Fo}, OutW X i a H o D → OutW X i a H' o D
 | none, h => h
 | some (.rt _), h => fun v H1 e1 r => h v H1 (e.trans e1) r
 | some (.nx _ _), h => fun σ H1 xs e1 => h σ H1 xs (e.trans e1)
def tO (X : Cx) (i : Nat) (f : eT) : TS := fun D σ Hf => ∃ H a xs ρ ds, Hf = upd H a (.lst xs) ∧ H a = none ∧ σ[i]? = some (some (.ref a)) ∧ Envs X.K H σ ρ ∧ Reps X.K H ds xs ∧ OutW X i a H (f ρ ds) D
structure FO1 (X : Cx) (i : Nat) (st : Stmt) (f : eT) : Prop where
 h : PS X st (tO X i f)
structure FOs (X : Cx) (i : Nat) (st : List Stmt) (f : eT) : Prop where
 h : PSs X st (tO X i f)
def oD {α : Type} (o : Option (Rs α)) (k : α → Option Fo) : Option Fo := match o with
 | some (.ok a) => k a
 | _ => none
def zu : eT := fun ρ ds => some (.nx ρ ds)
def p6 (f g : eT) : eT := fun ρ ds => match f ρ ds with
 | some (.nx ρ' ds') => g ρ' ds'
 | o => o
def sW (j : Nat) (f : FnE) : eT := fun ρ ds => oD (f ρ) fun d => some (.nx (ρ.set j (some d)) ds)
def oIf (c : FnB) (f g : eT) : eT := fun ρ ds => oD (c ρ) fun k => if k then f ρ ds else g ρ ds
def vA (i : Nat) (f : FnE) : eT := fun ρ ds => oD (f (ρ.set i (some (.lst ds)))) fun d => some (.rt d)
section
variable {X : Cx} {i : Nat} {st : Stmt} {sts : List Stmt} {f g : eT} {fe : FnE} {gb : FnB} {e c : Expr} {pos : Pos}
theorem cj {H : Hp} {a : Addr} {xs : List V} (ha : H a = none) : Same H (upd H a (.lst xs)) := ao ha _
theorem gX {H : Hp} {a : Addr} {xs : List V} {σ : L2.St} {ρ : Ev} {ds : List Dv} (ha : H a = none) (hi : σ[i]? = some (some (.ref a))) (E : Envs X.K H σ ρ) (r : Reps X.K H ds xs) : Envs X.K (upd H a (.lst xs)) σ (ρ.set i (some (.lst ds))) := by
 have E' := E.mono (cj (xs := xs) ha)
 refine ⟨by rw [List.length_set]; exact E'.len, fun j d hj => ?_⟩
 by_cases hij : i = j
 · subst hij
   by_cases hl : i < ρ.length
   · rw [List.getElem?_set_self hl] at hj
     cases hj
     exact ⟨.ref a, hi, a, xs, rfl, am, Reps.mono (cj ha) _ _ r⟩
   · rw [List.getElem?_eq_none (by rw [List.length_set]; omega)] at hj
     cases hj
 · rw [List.getElem?_set_ne hij] at hj
   exact E'.at' j d hj
theorem rm : FOs X i [] zu := ⟨fun pins s σ Hf D I ⟨H, a, xs, ρ, ds, e1, ha, hi, E, r, o⟩ => by
 subst e1
 exact iu pins s σ _ D I (o σ H xs (.refl H) ha hi E r)⟩
theorem oE (h1 : FO1 X i st f) (h2 : FOs X i sts g) : FOs X i (st :: sts) (p6 f g) := ⟨fun pins s σ Hf D I ⟨H, a, xs, ρ, ds, e1, ha, hi, E, r, o⟩ => by
 refine bV h1.h h2.h pins s σ Hf D I ⟨H, a, xs, ρ, ds, e1, ha, hi, E, r, ?_⟩
 unfold p6 at o
 match hf : f ρ ds with
 | none => rw [hf] at o; exact o.elim
 | some (.rt d) => rw [hf] at o; exact o
 | some (.nx ρ' ds') => rw [hf] at o; exact fun σ' H' xs' e' ha' hi' E' r' => ⟨H', a, xs', ρ', ds', rfl, ha', hi', E', r', OutW.mono e' o⟩⟩
theorem rn (h1 : FO1 X i st f) : FOs X i [st] f := ⟨fJ h1.h⟩
theorem vB (hex : X.ex = []) (j : Nat) (hij : i ≠ j) {x : Str} {pos' : Pos} (hN : X.N.Nodup) (hi : X.N[j]? = some x) (hx : Loc X.env.scope x) (he : FE X e fe) (hs : swapsWith e (some (.Name x pos')) pos.line X.env = pure false := by kernel_rfl) (hf : X.fn x = true ∨ X.env.scope.names.lookup x = some .local := by first | exact .inl rfl | exact .inr rfl | assumption) :
 FO1 X i (.Assign [.Name x pos'] e pos) (sW j fe) := ⟨fun pins s σ Hf D I ⟨H, a, xs, ρ, ds, e1, ha, hia, E, r, o⟩ => by
 refine eW hN hi hx (iH hex he.h) hs hf pins s σ Hf D I ⟨H, a, xs, e1, ha, ρ, E, ?_⟩
 unfold sW at o
 match hfe : fe ρ with
 | none => rw [hfe] at o; exact o.elim
 | some (.exc _) => rw [hfe] at o; exact o.elim
 | some (.ok d) =>
  rw [hfe] at o
  exact fun v H' e' rd ha' => o _ H' xs e' ha' (by rw [List.getElem?_set_ne (Ne.symm hij)]; exact hia) ((E.mono e').set rd) (Reps.mono e' _ _ r)⟩
theorem yB (hex : X.ex = []) {as bs : List Stmt} (hc : FT X c gb) (ha : FOs X i as f) (hb : FOs X i bs g) : FO1 X i (.If c as bs pos) (oIf gb f g) := ⟨fun pins s σ Hf D I ⟨H, a, xs, ρ, ds, e1, ha', hia, E, r, o⟩ => by
 refine qC (rh hex hc.h) ha.h hb.h pins s σ Hf D I ⟨H, a, xs, e1, ha', ρ, E, ?_⟩
 unfold oIf at o
 match hg : gb ρ with
 | none => rw [hg] at o; exact o.elim
 | some (.exc _) => rw [hg] at o; exact o.elim
 | some (.ok true) => rw [hg] at o; exact fun H' e' h' => nq ⟨H', a, xs, ρ, ds, rfl, h', hia, E.mono e', Reps.mono e' _ _ r, OutW.mono e' o⟩
 | some (.ok false) => rw [hg] at o; exact fun H' e' h' => nn ⟨H', a, xs, ρ, ds, rfl, h', hia, E.mono e', Reps.mono e' _ _ r, OutW.mono e' o⟩⟩
theorem vC (he : FE X e fe) : FO1 X i (.Return (some e) pos) (vA i fe) := ⟨fun pins s σ Hf D I ⟨H, a, xs, ρ, ds, e1, ha', hia, E, r, o⟩ => by
 subst e1
 refine kP he.h pins s σ _ D I ⟨_, gX ha' hia E r, ?_⟩
 unfold vA at o
 match hg : fe (ρ.set i (some (.lst ds))) with
 | none => rw [hg] at o; exact o.elim
 | some (.exc _) => rw [hg] at o; exact o.elim
 | some (.ok d) => rw [hg] at o; exact fun v H2 e2 rd => o v H2 ((cj ha').trans e2) rd⟩
end
def vD (i : Nat) (g : FnA) (f : eT) : FnS := fun ρ => fN (g ρ) fun ds => if ds.length ≤ 100000 then (match f (ρ.set i none) ds with
 | some (.nx ρ' ds') => some (.nx (ρ'.set i (some (.lst ds'))))
 | some (.rt d) => some (.rt d)
 | none => none) else none
section
variable {X : Cx} {i : Nat} {sts : List Stmt} {f : eT} {g : FnA} {es : List Expr} {pos lp : Pos}
theorem rq {x : Str} {pos' : Pos} (hN : X.N.Nodup) (hi : X.N[i]? = some x) (hx : Loc X.env.scope x) (hg : FA X es g) (hr : FOs X i sts f) (hs : swapsWith (.List es lp) (some (.Name x pos')) pos.line X.env = pure false := by kernel_rfl)
 (hf : X.fn x = true ∨ X.env.scope.names.lookup x = some .local := by first | exact .inl rfl | exact .inr rfl | assumption) : FSs X (.Assign [.Name x pos'] (.List es lp) pos :: sts) (vD i g f) := ⟨fun pins s σ H D I ⟨ρ, E, o⟩ => by
 refine bV (eW (i := i) hN hi hx (pE hg.h) hs hf) hr.h pins s σ H D I ⟨ρ, E, ?_⟩
 unfold vD at o
 match hgr : g ρ with
 | none => rw [hgr] at o; exact o.elim
 | some (.exc _) => rw [hgr] at o; exact o
 | some (.ok ds) =>
  rw [hgr] at o
  intro vs H1 e1 rs
  have o2 : OutS X H (if ds.length ≤ 100000 then (match f (ρ.set i none) ds with
   | some (.nx ρ' ds') => some (.nx (ρ'.set i (some (.lst ds'))))
   | some (.rt d) => some (.rt d)
   | none => none) else none) D := o
  by_cases hl : ds.length ≤ 100000
  · rw [if_pos hl] at o2
    refine ⟨by rw [rs.length]; exact aI hl, fun p hp => ?_⟩
    have hil : i < σ.length := by rw [I.len]; exact (List.getElem?_eq_some_iff.mp hi).1
    refine ⟨H1, p, vs, ρ.set i none, ds, rfl, hp, List.getElem?_set_self hil, ?_, rs, ?_⟩
    · have E1 := (E.mono e1).fgt1 i
      refine ⟨by rw [List.length_set]; exact E1.len, fun j d hj => ?_⟩
      by_cases hij : i = j
      · subst hij
        by_cases hl2 : i < ρ.length
        · rw [List.getElem?_set_self hl2] at hj; cases hj
        · rw [List.getElem?_eq_none (by rw [List.length_set]; omega)] at hj; cases hj
      · obtain ⟨v, q1, q2⟩ := E1.at' j d hj
        exact ⟨v, by rw [List.getElem?_set_ne hij]; exact q1, q2⟩
    · match hfr : f (ρ.set i none) ds with
      | none => rw [hfr] at o2; exact o2.elim
      | some (.rt d) => rw [hfr] at o2; exact fun v H' e' r' => o2 v H' (e1.trans e') r'
      | some (.nx ρ' ds') =>
       rw [hfr] at o2
       exact fun σ' H' xs' e' ha' hi' E' r' => o2 σ' _ ((e1.trans e').trans (cj ha')) (gX ha' hi' E' r')
  · rw [if_neg hl] at o2
    exact o2.elim⟩
end
def gY (j : Nat) (js : List Nat) (body : eT) : List Dv → Ev → List Dv → Option Fo
 | [], ρ, xs => some (.nx (fgt js ρ) xs)
 | d :: ds, ρ, xs => match body ((fgt js ρ).set j (some d)) xs with
  | some (.nx ρ' xs') => gY j js body ds ρ' xs'
  | o => o
def p8 (j : Nat) (js : List Nat) (src : FnA) (body : eT) : eT := fun ρ xs => oD (src ρ) fun ds => if imms ds = true then gY j js body ds ρ xs else none
theorem jI : ∀ {ds : List Dv} {n : Nat} {d : Dv}, imms ds = true → ds[n]? = some d → imm d = true
 | [], _, _, _, h => by simp at h
 | e :: ds, 0, d, i, h => by
  have i' : imm e = true ∧ imms ds = true := by simpa [imms] using i
  cases (show some e = some d from h)
  exact i'.1
 | e :: ds, n + 1, d, i, h => by
  have i' : imm e = true ∧ imms ds = true := by simpa [imms] using i
  exact jI i'.2 (show ds[n]? = some d from h)
theorem oF {K : PySem.W.Frag} {H : Hp} {a : Addr} {xs : List V} {d : Dv} {v : V} (i : imm d = true) (r : Rep K (upd H a (.lst xs)) d v) : Rep K H d v :=
 Rep.tups (fun b ys q => by
  by_cases hb : b = a
  · rw [hb, am] at q; cases q
  · rw [ak hb] at q; exact q) d v i r
theorem vF {X : Cx} {i : Nat} {tg iter : Expr} {body : List Stmt} {pos : Pos} {src : FnA} {fb : eT} (hex : X.ex = []) (j : Nat) (js : List Nat) (hij : i ≠ j) (hp : PassesOwn (model X.prog X.w) X.A X.env X.xe) (hc : X.calm = true) (hi : FI X tg iter src) (hg : PG X tg (j8 j)) (hb : FOs X i body fb)
 (hs : ∀ x, foldedSetIterable iter X.env x = pure x := by intro _; kernel_rfl) : FO1 X i (.For tg iter body [] pos) (p8 j js src fb) := ⟨fun pins s σ Hf D I ⟨H, a, xs, ρ, ds, e1, ha, hia, E, r, o⟩ => by
 refine jl hp hc (rj hex hi.h) hg hb.h hs pins s σ Hf D I ⟨H, a, xs, e1, ha, ρ, E, ?_⟩
 unfold p8 at o
 match hf : src ρ with
 | none => rw [hf] at o; exact o.elim
 | some (.exc _) => rw [hf] at o; exact o.elim
 | some (.ok us) =>
  rw [hf] at o
  have o0 : OutW X i a H (if imms us = true then gY j js fb us ρ ds else none) D := o
  by_cases him : imms us = true
  · rw [if_pos him] at o0
    intro J H1 e1 wk ha1
    have o1 := OutW.mono e1 o0
    refine ⟨fun n m σ' Hf' => m = us.length - n ∧ n ≤ us.length ∧ ∃ H' xs' ρ' ds', Hf' = upd H' a (.lst xs') ∧ H' a = none ∧ Same H1 H' ∧ σ'[i]? = some (some (.ref a)) ∧ Envs X.K H' σ' ρ' ∧ Reps X.K H' ds' xs' ∧ OutW X i a H' (gY j js fb (us.drop n) ρ' ds') D,
     ⟨us.length, by simp, Nat.zero_le _, H1, xs, ρ, ds, rfl, ha1, .refl H1, hia, E.mono e1, Reps.mono e1 _ _ r, by simpa using o1⟩, ?_⟩
    rintro n m σ' Hf' ⟨rfl, hn, H', xs', ρ', ds', rfl, ha', e2, hia', E', r', o'⟩
    have e2f : Same H1 (upd H' a (.lst xs')) := e2.trans (cj ha')
    by_cases hlt : n < us.length
    · refine .inr ⟨wk.go n _ e2f hlt, fun σ2 Hf2 => ∃ H2 xs2 ρ2 ds2, Hf2 = upd H2 a (.lst xs2) ∧ H2 a = none ∧ Same H1 H2 ∧ σ2[i]? = some (some (.ref a)) ∧ Envs X.K H2 σ2 ρ2 ∧ Reps X.K H2 ds2 xs2 ∧ OutW X i a H2 (gY j js fb (us.drop (n + 1)) ρ2 ds2) D,
       fun σ2 Hf2 q => ⟨us.length - (n + 1), by omega, rfl, hlt, q⟩, fun x H2 y => ?_⟩
      obtain ⟨rfl, d, hd, rd⟩ := wk.yld n _ x H2 e2f hlt y
      have rd' := oF (jI him hd) rd
      rw [bM hd] at o'
      show tO X i fb _ _ _
      refine ⟨H', a, xs', (fgt js ρ').set j (some d), ds', rfl, ha', by rw [List.getElem?_set_ne (Ne.symm hij)]; exact hia', (Envs.fgt js E').set rd', r', ?_⟩
      unfold gY at o'
      match hb' : fb ((fgt js ρ').set j (some d)) ds' with
      | none => rw [hb'] at o'; exact o'
      | some (.rt r) => rw [hb'] at o'; exact o'
      | some (.nx ρ2 ds2) => rw [hb'] at o'; exact fun σ2 H3 xs3 e3 h3 hi3 E3 r3 => ⟨H3, xs3, ρ2, ds2, rfl, h3, e2.trans e3, hi3, E3, r3, OutW.mono e3 o'⟩
    · have hn' : n = us.length := by omega
      subst hn'
      rw [List.drop_length] at o'
      exact .inl ⟨wk.stop _ e2f, o' σ' H' xs' (.refl H') ha' hia' (Envs.fgt js E') r'⟩
  · rw [if_neg him] at o0
    exact o0.elim⟩
end FD
namespace FD
open PySem PySem.Spec PyProof.Rows L2 PySem.W
section
variable {X : Cx} {p pos : Pos} {e : Expr} {es : List Expr} {ga : FnA}
end
def leX : Dv → Dv → Option (Rs Dv)
 | .int i, .int j => some (.ok (.bl (decide (i ≤ j))))
 | .str x, .str y => some (.ok (.bl (!decide (y.cps.toList < x.cps.toList))))
 | _, _ => none
def zv : R2 := fun x y H Q => rI0 (fun i j => .bl (decide (i ≤ j))) x y H Q ∨ ∃ i j, x = .str i ∧ y = .str j ∧ Q (.bl (!decide (j.cps.toList < i.cps.toList))) H
section
variable {X : Cx}
theorem lQ : OpR X (compareOp .LtE) (fun x y H Q => ∃ i j, x = .str i ∧ y = .str j ∧ Q (.bl (!decide (j.cps.toList < i.cps.toList))) H) := by
 intro pins s σ H x y v u Q I rx ry h
 obtain ⟨i, j, rfl, rfl, q⟩ := h
 obtain ⟨t, rfl⟩ := rx
 obtain ⟨t', rfl⟩ := ry
 exact PySem.P.le_str ⟨.bl _, H, I, rfl, q⟩
theorem lR : OpR X (compareOp .LtE) zv := op_le.or lQ
theorem lS : GOp X zv leX := by
 intro dx dy x y H Q rx ry o
 cases dx <;> cases dy <;> try exact (show False from o).elim
 · rename_i i j
   exact .inl ⟨i, j, rx, ry, o _ H (.refl H) rfl⟩
 · rename_i i j
   exact .inr ⟨i, j, rx, ry, o _ H (.refl H) rfl⟩
end
def yC (K : PySem.W.Frag) (S : List Nat) (Cs : List Addr) (CJ : Addr) : Bool := excIn K CJ bmV "ValueError.__new__" && S.all fun c => excIn K (Cs.getD c 0) bmV "ValueError.__new__" && xiB K (Cs.getD c 0) && mroIn K (Cs.getD c 0) (.ref CJ) == some true && mroIn K (Cs.getD c 0) (.ref (Cs.getD c 0)) == some true &&
 kitOne K (.ref (Cs.getD c 0)) (.type "ValueError") == some true && S.all fun d => kitOne K (.ref (Cs.getD c 0)) (.ref (Cs.getD d 0)) == some (c == d)
structure XAllS (K : PySem.W.Frag) (S : List Nat) (cls : Nat → Addr) (CJ : Addr) : Prop where
 at_ : ∀ c ∈ S, nsIn K mainGlobals (xnm c) = some (some (.ref (cls c))) ∧ excIn K (cls c) bmV "ValueError.__new__" = true ∧ XI K (cls c) ∧ mroIn K (cls c) (.ref CJ) = some true ∧ mroIn K (cls c) (.ref (cls c)) = some true ∧ kitOne K (.ref (cls c)) (.type "ValueError") = some true ∧ ∀ d ∈ S, kitOne K (.ref (cls c)) (.ref (cls d)) = some (c == d)
 exJ : excIn K CJ bmV "ValueError.__new__" = true
theorem oG {K : PySem.W.Frag} {S : List Nat} {Cs : List Addr} {CJ : Addr} (hn : ∀ c ∈ S, nsIn K mainGlobals (xnm c) = some (some (.ref (Cs.getD c 0)))) (h : yC K S Cs CJ = true) : XAllS K S (fun c => Cs.getD c 0) CJ := by
 unfold yC at h
 rw [Bool.and_eq_true] at h
 refine ⟨fun c hc => ?_, h.1⟩
 have h1 := List.all_eq_true.mp h.2 c hc
 simp only [Bool.and_eq_true, beq_iff_eq] at h1
 exact ⟨hn c hc, h1.1.1.1.1.1, yw h1.1.1.1.1.2, h1.1.1.1.2, h1.1.1.2, h1.1.2, fun d hd => by
  have h2 := List.all_eq_true.mp h1.2 d hd
  simpa using h2⟩
section
variable {K : PySem.W.Frag} {S : List Nat} {cls : Nat → Addr} {CJ : Addr} (x : XAllS K S cls CJ)
include x
theorem XAllS.xc (c : Nat) (h : c ∈ S) : XC K c (cls c) := ⟨(x.at_ c h).1, (x.at_ c h).2.1⟩
theorem XAllS.same {c : Nat} {C : Addr} (h : c ∈ S) (q : nsIn K mainGlobals (xnm c) = some (some (.ref C))) : C = cls c := by
 have z := (x.at_ c h).1
 rw [q] at z
 cases z
 rfl
theorem XAllS.xtO (d : Nat) (hd : d ∈ S) : XT K (fun c => if S.contains c then some (c == d) else none) (.ref (cls d)) := fun c b hb C q => by
 dsimp only at hb
 split at hb
 · rename_i h
   have h' : c ∈ S := by simpa using h
   cases hb
   rw [x.same h' q]
   exact ⟨(x.at_ c h').2.2.1, (x.at_ c h').2.2.2.2.2.2 d hd⟩
 · cases hb
theorem XAllS.xtV : XT K (fun c => if S.contains c then some true else none) (.type "ValueError") := fun c b hb C q => by
 dsimp only at hb
 split at hb
 · rename_i h
   have h' : c ∈ S := by simpa using h
   cases hb
   rw [x.same h' q]
   exact ⟨(x.at_ c h').2.2.1, (x.at_ c h').2.2.2.2.2.1⟩
 · cases hb
end
section
variable {X : Cx} {ex hx : Expr} {f g : FnE} {J : Str} {CJ : Addr} {np rp rp2 hpos pos : Pos}
end
end FD
namespace ST
open PySem PySem.SetTable
def stp (m i : Nat) : Nat := (i * 5 + 1) % (m + 1)
def it (m : Nat) : Nat → Nat → Nat
 | 0, i => i
 | k + 1, i => it m k (stp m i)
def p9 (m : Nat) : Bool := (List.range (m + 1)).all fun i => (List.range (m + 1)).all fun j => (List.range (m + 1)).any fun k => it m k i == j
theorem yD : p9 31 = true := by decide +kernel
theorem vG {m : Nat} (h : p9 m = true) {i j : Nat} (hi : i ≤ m) (hj : j ≤ m) : ∃ k, k ≤ m ∧ it m k i = j := by
 unfold p9 at h
 have h1 := List.all_eq_true.mp h i (List.mem_range.mpr (by omega))
 have h2 := List.all_eq_true.mp h1 j (List.mem_range.mpr (by omega))
 obtain ⟨k, hk, e⟩ := List.any_eq_true.mp h2
 exact ⟨k, by have := List.mem_range.mp hk; omega, by simpa using e⟩
def lp (m : Nat) : Nat → Nat × Nat → Nat × Nat
 | 0, x => x
 | r + 1, x => lp m r (leap m x.1 x.2)
theorem lT (m : Nat) : ∀ (a b : Nat) (x : Nat × Nat), lp m (a + b) x = lp m b (lp m a x)
 | 0, b, x => by rw [Nat.zero_add]; rfl
 | a + 1, b, x => by
  rw [Nat.succ_add]
  show lp m (a + b) (leap m x.1 x.2) = lp m b (lp m a (leap m x.1 x.2))
  exact lT m a b _
theorem rA (m : Nat) : ∀ (r : Nat) (x : Nat × Nat), x.1 ≤ m → (lp m r x).1 ≤ m
 | 0, x, h => h
 | r + 1, x, h => rA m r _ (by
  show (x.1 * 5 + 1 + x.2 / 32) % (m + 1) ≤ m
  exact Nat.le_of_lt_succ (Nat.mod_lt _ (Nat.succ_pos m)))
theorem vH (m : Nat) : ∀ (r : Nat) (x : Nat × Nat), (lp m r x).2 = x.2 / 32 ^ r
 | 0, x => by simp [lp]
 | r + 1, x => by
  show (lp m r (leap m x.1 x.2)).2 = _
  rw [vH m r]
  show x.2 / 32 / 32 ^ r = _
  rw [Nat.div_div_eq_div_mul, Nat.pow_succ, Nat.mul_comm]
theorem lU (m : Nat) : ∀ (r : Nat) (i : Nat), (lp m r (i, 0)).1 = it m r i
 | 0, i => rfl
 | r + 1, i => by
  show (lp m r (leap m i 0)).1 = it m r (stp m i)
  have e : leap m i 0 = (stp m i, 0) := by unfold leap stp; simp
  rw [e]
  exact lU m r _
theorem lV {m : Nat} (c : p9 m = true) {i pt j : Nat} (hi : i ≤ m) (hp : pt < 2 ^ 64) (hj : j ≤ m) : ∃ r, r ≤ 13 + m ∧ (lp m r (i, pt)).1 = j := by
 have h0 : (lp m 13 (i, pt)).2 = 0 := by
  rw [vH]
  exact Nat.div_eq_of_lt (by
   show pt < 32 ^ 13; have : (32 : Nat) ^ 13 = 2 ^ 65 := by decide
   omega)
 obtain ⟨k, hk, e⟩ := vG c (rA m 13 (i, pt) hi) hj
 refine ⟨13 + k, by omega, ?_⟩
 rw [lT]
 have e2 : lp m 13 (i, pt) = ((lp m 13 (i, pt)).1, 0) := by rw [← h0]
 rw [e2, lU]
 exact e
def advN (t : SetTable) : Nat → Probe → Probe
 | 0, p => p
 | n + 1, p => advN t n (t.advance p)
theorem cZ (t : SetTable) : ∀ (a b : Nat) (p : Probe), advN t (a + b) p = advN t b (advN t a p)
 | 0, b, p => by rw [Nat.zero_add]; rfl
 | a + 1, b, p => by
  rw [Nat.succ_add]
  exact cZ t a b _
structure Vp (t : SetTable) (p : Probe) : Prop where
 i : p.i ≤ t.mask
 pt : p.perturb < 2 ^ 64
 more : p.more ≤ 9
 dm : p.dummy = none
theorem gZ (m i : Nat) : runEnd m i - i ≤ 9 := by unfold runEnd; split <;> omega
def g7 (t : SetTable) (p : Probe) : Probe := { p with j := (leap t.mask p.i p.perturb).1, more := runEnd t.mask (leap t.mask p.i p.perturb).1 - (leap t.mask p.i p.perturb).1, i := (leap t.mask p.i p.perturb).1, perturb := (leap t.mask p.i p.perturb).2 }
theorem jJ (t : SetTable) (p : Probe) (h : p.more = 0) : t.advance p = g7 t p := by
 unfold SetTable.advance g7
 rw [if_neg (by omega)]
theorem lW (t : SetTable) (p : Probe) (h : 0 < p.more) : t.advance p = { p with j := p.j + 1, more := p.more - 1 } := by
 unfold SetTable.advance
 rw [if_pos h]
theorem iI (t : SetTable) : ∀ (k : Nat) (p : Probe), p.more = k → advN t (k + 1) p = g7 t p
 | 0, p, h => jJ t p h
 | k + 1, p, h => by
  show advN t (k + 1) (t.advance p) = _
  rw [lW t p (by omega), iI t k _ (by show p.more - 1 = k; omega)]
  rfl
theorem lX (m i pt : Nat) (h : pt < 2 ^ 64) : (leap m i pt).2 < 2 ^ 64 := Nat.lt_of_le_of_lt (Nat.div_le_self _ _) h
theorem Vp.leap {t : SetTable} {p : Probe} (v : Vp t p) : Vp t (g7 t p) := ⟨by
 show (p.i * 5 + 1 + p.perturb / 32) % (t.mask + 1) ≤ t.mask
 exact Nat.le_of_lt_succ (Nat.mod_lt _ (Nat.succ_pos t.mask)), (show (SetTable.leap t.mask p.i p.perturb).2 < 2 ^ 64 from lX _ _ _ v.pt), (show runEnd t.mask (SetTable.leap t.mask p.i p.perturb).1 - (SetTable.leap t.mask p.i p.perturb).1 ≤ 9 from gZ _ _), v.dm⟩
theorem Vp.adv {t : SetTable} {p : Probe} (v : Vp t p) : Vp t (t.advance p) := by
 by_cases h : 0 < p.more
 · rw [lW t p h]; exact ⟨v.i, v.pt, by show p.more - 1 ≤ 9; have := v.more; omega, v.dm⟩
 · rw [jJ t p (by omega)]; exact v.leap
theorem Vp.advN {t : SetTable} : ∀ (n : Nat) {p : Probe}, Vp t p → Vp t (advN t n p)
 | 0, p, v => v
 | n + 1, p, v => Vp.advN n v.adv
theorem jK (t : SetTable) : ∀ (r : Nat) (p : Probe), Vp t p → ∃ n, n ≤ 10 * r ∧ (advN t n p).i = (lp t.mask r (p.i, p.perturb)).1 ∧ (r ≠ 0 → (advN t n p).j = (advN t n p).i)
 | 0, p, v => ⟨0, by omega, rfl, fun h => absurd rfl h⟩
 | r + 1, p, v => by
  obtain ⟨n, h1, h2, h3⟩ := jK t r (g7 t p) v.leap
  refine ⟨p.more + 1 + n, by have := v.more; omega, ?_, fun _ => ?_⟩
  · rw [cZ, iI t p.more p rfl, h2]; rfl
  · rw [cZ, iI t p.more p rfl]
    by_cases hr : r = 0
    · subst hr
      have hn : n = 0 := by omega
      subst hn
      rfl
    · exact h3 hr
structure Tb (t : SetTable) (n : Nat) : Prop where
 size : t.place.size = n
 dm : t.dummies = #[]
 cyc : p9 t.mask = true
 room : n ≤ t.mask
theorem lY (j : Nat) : has #[] j = false := by unfold has; simp
theorem fw {t : SetTable} {n : Nat} (T : Tb t n) (j : Nat) : t.slot j = .empty ∨ ∃ i, t.slot j = .live i ∧ t.place[i]? = some j := by
 unfold SetTable.slot
 dsimp only
 split
 · rename_i h
   exact .inr ⟨_, rfl, by simpa using h⟩
 · rw [T.dm, lY]
   exact .inl rfl
theorem lZ : ∀ (m : Nat) (l : List Nat), l.length ≤ m → ∃ j, j ≤ m ∧ j ∉ l
 | 0, l, h => ⟨0, Nat.le_refl _, by
  have : l = [] := List.length_eq_zero_iff.mp (by omega)
  simp [this]⟩
 | m + 1, l, h => by
  by_cases hm : (m + 1) ∈ l
  · obtain ⟨j, hj, hn⟩ := lZ m (l.erase (m + 1)) (by rw [List.length_erase_of_mem hm]; omega)
    refine ⟨j, by omega, fun hl => hn ?_⟩
    exact (List.mem_erase_of_ne (by omega)).mpr hl
  · exact ⟨m + 1, Nat.le_refl _, hm⟩
theorem oH {t : SetTable} {n : Nat} (T : Tb t n) : ∃ j, j ≤ t.mask ∧ t.slot j = .empty := by
 obtain ⟨j, hj, hn⟩ := lZ t.mask t.place.toList (by simp [T.size, T.room])
 refine ⟨j, hj, ?_⟩
 rcases fw T j with h | ⟨i, h, e⟩
 · exact h
 · exact absurd (Array.mem_toList_iff.mpr (Array.mem_of_getElem? e)) hn
theorem reach {t : SetTable} {n : Nat} (T : Tb t n) {p : Probe} (v : Vp t p) : ∃ N, N < 10 * turns t.mask ∧ t.slot (advN t N p).j = .empty := by
 obtain ⟨j, hj, he⟩ := oH T
 obtain ⟨r, hr, e⟩ := lV T.cyc (rA t.mask 1 (p.i, p.perturb) v.i) (by
  show (leap t.mask p.i p.perturb).2 < 2 ^ 64
  exact lX _ _ _ v.pt) hj (pt := (lp t.mask 1 (p.i, p.perturb)).2)
 obtain ⟨N, h1, h2, h3⟩ := jK t (1 + r) p v
 refine ⟨N, by unfold turns; omega, ?_⟩
 rw [h3 (by omega), h2, lT]
 rw [show lp t.mask 1 (p.i, p.perturb) = ((lp t.mask 1 (p.i, p.perturb)).1, (lp t.mask 1 (p.i, p.perturb)).2) from rfl, e]
 exact he
theorem first {P : Nat → Prop} [DecidablePred P] : ∀ (b : Nat), (∃ n, n < b ∧ P n) → ∃ n, n < b ∧ P n ∧ ∀ k, k < n → ¬ P k
 | 0, ⟨n, h, _⟩ => absurd h (Nat.not_lt_zero _)
 | b + 1, ⟨n, h, hp⟩ => by
  by_cases q : ∃ n, n < b ∧ P n
  · obtain ⟨n, h1, h2, h3⟩ := first b q
    exact ⟨n, by omega, h2, h3⟩
  · have hn : n = b := by
     have : ¬ n < b := fun z => q ⟨n, z, hp⟩
     omega
    subst hn
    exact ⟨n, by omega, hp, fun k hk z => q ⟨k, hk, z⟩⟩
theorem vI {t : SetTable} {n : Nat} (T : Tb t n) {p : Probe} (v : Vp t p) : ∃ N, N < 10 * turns t.mask ∧ t.slot (advN t N p).j = .empty ∧ ∀ k, k < N → t.slot (advN t k p).j ≠ .empty :=
 first (P := fun n => t.slot (advN t n p).j = .empty) _ (reach T v)
theorem qa {t : SetTable} {n : Nat} (T : Tb t n) (hashAt : Nat → Int) (h : Int) : ∀ (N fuel : Nat) (p : Probe), Vp t p → N < fuel → t.slot (advN t N p).j = .empty → (∀ k, k < N → t.slot (advN t k p).j ≠ .empty) →
 probe.go t hashAt h fuel p = some (.empty (advN t N p).j none) ∨ ∃ m i, m < N ∧ t.slot (advN t m p).j = .live i ∧ t.place[i]? = some (advN t m p).j ∧ hashAt i = h ∧ probe.go t hashAt h fuel p = some (.candidate (advN t m p).j i (advN t (m + 1) p))
 | N, 0, p, v, hf, _, _ => absurd hf (Nat.not_lt_zero _)
 | 0, fuel + 1, p, v, hf, he, _ => by
  refine .inl ?_
  unfold probe.go
  rw [show t.slot p.j = .empty from he]
  show some (Met.empty p.j p.dummy) = _
  rw [v.dm]
  rfl
 | N + 1, fuel + 1, p, v, hf, he, hn => by
  rcases fw T p.j with h0 | ⟨i, h1, h2⟩
  · exact absurd h0 (hn 0 (by omega))
  · by_cases hh : hashAt i = h
    · refine .inr ⟨0, i, by omega, h1, h2, hh, ?_⟩
      unfold probe.go
      rw [h1]
      dsimp only
      rw [if_pos (by simpa using hh)]
      rfl
    · have hg : probe.go t hashAt h (fuel + 1) p = probe.go t hashAt h fuel (t.advance p) := by
       conv => lhs; unfold probe.go
       rw [h1]
       dsimp only
       rw [if_neg (by simpa using hh)]
      rcases qa T hashAt h N fuel (t.advance p) v.adv (by omega) he (fun k hk => hn (k + 1) (by omega)) with q | ⟨m, i', q1, q2, q3, q4, q5⟩
      · exact .inl (by rw [hg, q]; rfl)
      · exact .inr ⟨m + 1, i', by omega, q2, q3, q4, by rw [hg, q5]; rfl⟩
theorem l4 {t : SetTable} (h : Int) : Vp t (t.probeStart h) := ⟨by
 show bits h % (t.mask + 1) ≤ t.mask
 exact Nat.le_of_lt_succ (Nat.mod_lt _ (Nat.succ_pos t.mask)), by
 show bits h < 2 ^ 64
 unfold bits
 have h1 := Int.emod_nonneg h (show (2 ^ 64 : Int) ≠ 0 by decide)
 have h2 := Int.emod_lt_of_pos h (show (0 : Int) < 2 ^ 64 by decide)
 omega, gZ _ _, rfl⟩
theorem g8 {m : Nat} {owner : Array (Option Nat)} : ∀ (fuel i pt : Nat), i ≤ m → (∃ r, r < fuel ∧ (owner.getD (lp m r (i, pt)).1 (some 0)).isNone = true) → ∃ j, layClean.free m owner fuel i pt = some j ∧ (owner.getD j (some 0)).isNone = true
 | 0, i, pt, _, ⟨r, h, _⟩ => absurd h (Nat.not_lt_zero _)
 | fuel + 1, i, pt, hi, ⟨r, h, e⟩ => by
  unfold layClean.free
  split
  · rename_i k hk
    exact ⟨i + k, rfl, by simpa using List.find?_some hk⟩
  · rename_i hk
    cases r with
    | zero =>
     have hm : 0 ∈ List.range (runEnd m i + 1 - i) := List.mem_range.mpr (by unfold runEnd; split <;> omega)
     have := List.find?_eq_none.mp hk 0 hm
     exact absurd (show (owner.getD (i + 0) (some 0)).isNone = true from e) this
    | succ r =>
     exact g8 fuel _ _ (by
      show (i * 5 + 1 + pt / 32) % (m + 1) ≤ m
      exact Nat.le_of_lt_succ (Nat.mod_lt _ (Nat.succ_pos m))) ⟨r, by omega, e⟩
theorem qb : ∀ (l : List (Option Nat)) (j k : Nat), l[j]? = some none → ((l.set j (some k)).filterMap id).Perm (k :: l.filterMap id)
 | [], j, k, h => by simp at h
 | x :: l, 0, k, h => by
  have : x = none := by simpa using h
  subst this
  simp
 | x :: l, j + 1, k, h => by
  have ih := qb l j k (by simpa using h)
  cases x with
  | none => simpa using ih
  | some y =>
   show List.Perm (y :: (l.set j (some k)).filterMap id) (k :: y :: l.filterMap id)
   exact (ih.cons y).trans (List.Perm.swap ..)
theorem l7 : ∀ (l : List (Option Nat)), (l.filterMap id).length < l.length → ∃ j, j < l.length ∧ l[j]? = some none
 | [], h => by simp at h
 | none :: l, h => ⟨0, by simp, rfl⟩
 | some y :: l, h => by
  obtain ⟨j, h1, h2⟩ := l7 l (by simpa using h)
  exact ⟨j + 1, by simpa using h1, by simpa using h2⟩
def rB (m : Nat) (acc : Option (Array (Option Nat) × Nat)) (h : Int) : Option (Array (Option Nat) × Nat) := do
 let (owner, k) ← acc
 let j ← layClean.free m owner (turns m) (bits h % (m + 1)) (bits h)
 pure (owner.setIfInBounds j (some k), k + 1)
theorem rD (h : Int) : bits h < 2 ^ 64 := by
 unfold bits
 have h1 := Int.emod_nonneg h (show (2 ^ 64 : Int) ≠ 0 by decide)
 have h2 := Int.emod_lt_of_pos h (show (0 : Int) < 2 ^ 64 by decide)
 omega
theorem getD_none {owner : Array (Option Nat)} {j : Nat} (h : (owner.getD j (some 0)).isNone = true) : j < owner.size ∧ owner.toList[j]? = some none := by
 rw [Array.getD_eq_getD_getElem?] at h
 cases q : owner[j]? with
 | none => rw [q] at h; simp at h
 | some x =>
  rw [q] at h
  have hx : x = none := by simpa using h
  subst hx
  refine ⟨(Array.getElem?_eq_some_iff.mp q).1, by rw [Array.getElem?_toList]; exact q⟩
theorem l8 {m : Nat} (c : p9 m = true) : ∀ (hs : List Int) (owner : Array (Option Nat)) (k : Nat), owner.size = m + 1 → (owner.toList.filterMap id).Perm (List.range k) → k + hs.length ≤ m →
 ∃ o2, hs.foldl (rB m) (some (owner, k)) = some (o2, k + hs.length) ∧ o2.size = m + 1 ∧ (o2.toList.filterMap id).Perm (List.range (k + hs.length))
 | [], owner, k, h1, h2, h3 => ⟨owner, rfl, h1, h2⟩
 | h :: hs, owner, k, h1, h2, h3 => by
  have hk : k + (hs.length + 1) ≤ m := by simpa using h3
  obtain ⟨j0, a1, a2⟩ := l7 owner.toList (by rw [h2.length_eq, List.length_range]; simp only [Array.length_toList, h1]; omega)
  have hj0 : j0 ≤ m := by simp only [Array.length_toList, h1] at a1; omega
  obtain ⟨r, b1, b2⟩ := lV c (i := bits h % (m + 1)) (pt := bits h) (Nat.le_of_lt_succ (Nat.mod_lt _ (Nat.succ_pos m))) (rD h) hj0
  obtain ⟨j, f1, f2⟩ := g8 (m := m) (owner := owner) (turns m) (bits h % (m + 1)) (bits h) (Nat.le_of_lt_succ (Nat.mod_lt _ (Nat.succ_pos m))) ⟨r, by unfold turns; omega, by
   rw [b2, Array.getD_eq_getD_getElem?]
   rw [Array.getElem?_toList] at a2
   rw [a2]; rfl⟩
  obtain ⟨g1, g2⟩ := getD_none f2
  have e : rB m (some (owner, k)) h = some (owner.setIfInBounds j (some k), k + 1) := by
   show (layClean.free m owner (turns m) (bits h % (m + 1)) (bits h)).bind (fun j => some (owner.setIfInBounds j (some k), k + 1)) = _
   rw [f1]; rfl
  rw [List.foldl_cons, e]
  obtain ⟨o2, c1, c2, c3⟩ := l8 c hs (owner.setIfInBounds j (some k)) (k + 1) (by rw [Array.size_setIfInBounds]; exact h1) (by
   rw [Array.toList_setIfInBounds]
   refine (qb _ _ _ g2).trans ((h2.cons k).trans ?_)
   rw [List.range_succ]
   exact (List.perm_append_singleton k (List.range k)).symm) (by omega)
  refine ⟨o2, ?_, c2, ?_⟩
  · rw [c1]; simp only [List.length_cons]; congr 2; omega
  · simp only [List.length_cons]; rw [show k + (hs.length + 1) = k + 1 + hs.length by omega]; exact c3
theorem iJ {m : Nat} (c : p9 m = true) (hs : Array Int) (hl : hs.size ≤ m) : ∃ o2, layClean m hs = some o2 ∧ o2.size = m + 1 ∧ (o2.toList.filterMap id).Perm (List.range hs.size) := by
 obtain ⟨o2, c1, c2, c3⟩ := l8 c hs.toList (Array.replicate (m + 1) none) 0 (by simp) (by simp [List.filterMap_replicate]) (by simpa using hl)
 refine ⟨o2, ?_, c2, by simpa using c3⟩
 unfold layClean
 rw [← Array.foldl_toList]
 have e : (List.foldl (fun acc h => do
  let (owner, k) ← acc
  let j ← layClean.free m owner (turns m) (bits h % (m + 1)) (bits h)
  pure (owner.setIfInBounds j (some k), k + 1)) (some (Array.replicate (m + 1) none, 0)) hs.toList : Option (Array (Option Nat) × Nat)) = hs.toList.foldl (rB m) (some (Array.replicate (m + 1) none, 0)) := rfl
 rw [e, c1]
 rfl
theorem jL : ∀ (l : List (Option Nat)) (base : Nat), ((List.range l.length).filterMap fun j => (l.getD j none).map (fun x => (base + j, x))).map (·.2) = l.filterMap id
 | [], base => rfl
 | x :: l, base => by
  rw [List.length_cons, List.range_succ_eq_map, List.filterMap_cons, List.filterMap_map]
  have ih := jL l (base + 1)
  have e : (List.range l.length).filterMap ((fun j => ((x :: l).getD j none).map (fun x => (base + j, x))) ∘ Nat.succ) = (List.range l.length).filterMap fun j => (l.getD j none).map (fun x => (base + 1 + j, x)) := by
   congr 1
   funext j
   show ((x :: l).getD (j + 1) none).map _ = _
   simp only [List.getD_cons_succ]
   rw [show base + (j + 1) = base + 1 + j by omega]
  rw [e]
  cases x with
  | none => simpa using ih
  | some y =>
   simp only [List.getD_cons_zero, Option.map_some, List.map_cons]
   rw [ih]
   rfl
theorem rE {m finger moves : Nat} {led plain : Bool} (c : p9 m = true) (hs : Array Int) (hl : hs.size ≤ m) : ∃ t order, laid m finger moves led plain hs = some (t, order) ∧ t.mask = m ∧ t.moves = moves ∧ t.led = led ∧ t.plain = plain ∧ Tb t hs.size ∧ order.toList.Perm (List.range hs.size) := by
 obtain ⟨o2, c1, c2, c3⟩ := iJ c hs hl
 have e := jL o2.toList 0
 have hlen : ((List.range (m + 1)).filterMap fun j => (o2.getD j none).map (j, ·)) = ((List.range o2.toList.length).filterMap fun j => (o2.toList.getD j none).map (fun x => (0 + j, x))) := by
  rw [Array.length_toList, c2]
  congr 1
  funext j
  rw [Nat.zero_add, Array.getD_eq_getD_getElem?, List.getD_eq_getElem?_getD, Array.getElem?_toList]
 refine ⟨_, _, by unfold laid; rw [c1]; rfl, rfl, rfl, rfl, rfl, ⟨?_, rfl, c, hl⟩, ?_⟩
 · simp only [List.size_toArray, List.length_map]
   rw [hlen]
   have := congrArg List.length e
   rw [List.length_map] at this
   rw [this, c3.length_eq, List.length_range]
 · rw [List.toList_toArray, hlen, e]
   exact c3
theorem c4 {α : Type} (xs : Array α) (p : Nat) (x : α) (h : p ≤ xs.size) : (insertAt xs p x).size = xs.size + 1 := by
 unfold insertAt
 simp only [Array.size_append, Array.size_push, Array.size_extract]
 omega
theorem jM (xs : Array Nat) (j : Nat) : below xs j ≤ xs.size := by
 unfold below
 have : ∀ (fuel lo hi : Nat), lo ≤ hi → hi ≤ xs.size → below.go xs j fuel lo hi ≤ xs.size := by
  intro fuel
  induction fuel with
  | zero => intro lo hi h1 h2; unfold below.go; omega
  | succ fuel ih =>
   intro lo hi h1 h2
   unfold below.go
   split
   · rename_i hlt
     dsimp only
     split
     · exact ih _ _ (by omega) h2
     · exact ih _ _ (by omega) (by omega)
   · omega
 exact this _ _ _ (Nat.zero_le _) (Nat.le_refl _)
theorem vJ {t : SetTable} {n : Nat} (T : Tb t n) (h : n + 1 ≤ t.mask) (j : Nat) : Tb (t.put j).1 (n + 1) ∧ (t.put j).2 ≤ n ∧ (t.put j).1.mask = t.mask ∧ (t.put j).1.led = t.led ∧ (t.put j).1.moves = t.moves := by
 unfold SetTable.put
 refine ⟨⟨?_, ?_, T.cyc, h⟩, ?_, rfl, rfl, rfl⟩
 · show (insertAt t.place (below t.place j) j).size = n + 1
   rw [c4 _ _ _ (jM _ _), T.size]
 · show (if has t.dummies j then eraseAt t.dummies (below t.dummies j) else t.dummies) = #[]
   rw [T.dm, lY]
   rfl
 · show below t.place j ≤ n
   rw [← T.size]
   exact jM _ _
section
variable {prog : Program} {w : World} {A : Around} {E : Value → Shared → Prop} {s : Shared}
abbrev TK (prog : Program) (w : World) (h : Heap) (k : List Str) (a : Addr) : Prop := IsTupleKey (strKind prog w) h k a
abbrev hsh (prog : Program) (w : World) (k : List Str) : Int := tupleKeyHash (strKind prog w) k
theorem eA {k : List Str} {vs : List Value} (h : ItemsAre (strKind prog w) k vs) : ∀ v ∈ vs, ∃ x t, v = .str x t := by
 induction h with
 | nil => intro v hv; simp at hv
 | @cons k' v' ks vs h1 _ ih =>
  intro v hv
  rcases List.mem_cons.mp hv with rfl | hv
  · obtain ⟨t, rfl⟩ := Value.isStrOf_shape h1
    exact ⟨_, _, rfl⟩
  · exact ih v hv
theorem md {k : List Str} {a : Addr} {Q : Bool → Shared → Prop} (hk : TK prog w s.heap k a) (h : Q false s) : wpAny (model prog w) A (ofAClassStatement 8 (.ref a)) Q E s := by
 have hT := hk.typeIs
 obtain ⟨o, items, n, ho, _, hd, hi⟩ := hk
 unfold ofAClassStatement
 refine wpAny_bind (wpAny_typeOf hT ?_)
 show wpAny _ _ ((if ("tuple" == "tuple") = true then pure true else isSubtype (.type "tuple") (.type "tuple")) >>= _) _ _ s
 rw [if_pos (by decide)]
 refine wpAny_bind (wpAny_pure ?_)
 simp only [Bool.not_true, Bool.false_eq_true, if_false]
 refine wpAny_bind (wpAny_seqItems ho hd ?_)
 refine wpAny_bind ?_
 show wpAny _ _ (forIn items _ _) _ _ s
 rw [← Array.forIn_toList]
 refine wpAny_forIn_list _ (fun rest r s' => r.1 = none ∧ s' = s ∧ ∀ v ∈ rest, ∃ x t, v = Value.str x t) _ ?_ ?_ _ _ ⟨rfl, rfl, eA hi⟩
 · rintro v rest r s' ⟨hr, rfl, hall⟩
   obtain ⟨x, t, rfl⟩ := hall v List.mem_cons_self
   refine wpAny_bind (wpAny_pure ?_)
   simp only [Bool.false_eq_true, if_false]
   exact wpAny_pure ⟨rfl, rfl, fun u hu' => hall u (List.mem_cons_of_mem _ hu')⟩
 · rintro ⟨r1, r2⟩ s' ⟨hr, rfl, _⟩
   simp only at hr
   subst hr
   exact wpAny_pure h
theorem vK {k : List Str} {b : Addr} (hk : TK prog w s.heap k b) {l : List Value} (hl : ∀ v ∈ l, ∃ k' a, v = .ref a ∧ TK prog w s.heap k' a) {Q : Bool → Shared → Prop} (h : Q false s) : wpAny (model prog w) A (searchCouldBeSeen (.ref b) l) Q E s := by
 unfold searchCouldBeSeen
 refine wpAny_bind ?_
 refine wpAny_forIn_list _ (fun rest r s' => r.1 = none ∧ s' = s ∧ ∀ v ∈ rest, ∃ k' a, v = Value.ref a ∧ TK prog w s.heap k' a) _ ?_ ?_ _ _ ⟨rfl, rfl, hl⟩
 · rintro v rest r s' ⟨hr, rfl, hall⟩
   obtain ⟨k', a, rfl, ha⟩ := hall v List.mem_cons_self
   have hrest : ∀ v ∈ rest, ∃ k' a, v = Value.ref a ∧ TK prog w s'.heap k' a := fun u hu' => hall u (List.mem_cons_of_mem _ hu')
   dsimp only
   split
   · exact wpAny_pure ⟨rfl, rfl, hrest⟩
   · refine wpAny_bind (wpAny_eqIsQuiet_tuple hk ?_)
     simp only [Bool.not_true, Bool.false_eq_true, if_false]
     refine wpAny_bind (wpAny_eqIsQuiet_tuple ha ?_)
     simp only [Bool.not_true, Bool.false_eq_true, if_false]
     refine wpAny_bind (md hk ?_)
     simp only [Bool.false_eq_true, if_false]
     refine wpAny_bind (md ha ?_)
     simp only [Bool.false_eq_true, if_false]
     exact wpAny_pure ⟨rfl, rfl, hrest⟩
 · rintro ⟨r1, r2⟩ s' ⟨hr, rfl, _⟩
   simp only at hr
   subst hr
   exact wpAny_pure h
def Ent (prog : Program) (w : World) (h : Heap) (ks : List (List Str)) (es : List (Int × Value)) : Prop := ∀ e ∈ es, ∃ k a, k ∈ ks ∧ e.2 = .ref a ∧ TK prog w h k a
theorem iK {t : SetTable} {n : Nat} (T : Tb t n) : t.fits n = true := by
 unfold SetTable.fits SetTable.fill
 rw [T.size, T.dm]
 simp [T.room]
theorem mf {S b : Addr} {o : Obj} {es : Array (Int × Value)} {ep : Nat} {t : SetTable} {ks : List (List Str)} {k : List Str} {h : Int} {adding : Bool} {Q : SetFound → Shared → Prop} (hu : A.units < cLine)
 (ho : s.heap.get? S = some o) (hd : o.data = .set es ep t) (T : Tb t es.size) (hm : t.mask % 2 = 1) (hE : Ent prog w s.heap ks es.toList) (hx : TK prog w s.heap k b) (hk : k ∉ ks) :
 ∀ (N fuel : Nat) (st : Option Probe), (∀ p, st = some p → Vp t p) → N < fuel → t.slot (advN t N (st.getD (t.probeStart h))).j = .empty → (∀ m, m < N → t.slot (advN t m (st.getD (t.probeStart h))).j ≠ .empty) → N < 10 * turns t.mask →
  (∀ j, Q (.free j false) s) → wpAny (model prog w) A (setSearchFrom S (.ref b) h adding fuel st) Q E s := by
 intro N
 induction N using Nat.strongRecOn with
 | _ N ih =>
  intro fuel st hv hf he hn hN hQ
  cases fuel with
  | zero => exact absurd hf (Nat.not_lt_zero _)
  | succ fuel =>
   have hfit := iK T
   have v : Vp t (st.getD (t.probeStart h)) := by
    cases st with
    | none => exact l4 h
    | some p => exact hv p rfl
   unfold setSearchFrom
   refine wpAny_bind (wpAny_setState_of ho hd hfit ?_)
   dsimp only
   have hgw : t.gaveWay = false := by unfold SetTable.gaveWay; rw [hm]; rfl
   rw [hgw]
   simp only [Bool.false_eq_true, if_false]
   unfold SetTable.probe
   rcases qa T _ h N _ (st.getD (t.probeStart h)) v hN he hn with q | ⟨m, i, hmN, q1, q2, q3, q5⟩
   · rw [q]
     dsimp only
     exact wpAny_pure (hQ _)
   · rw [q5]
     dsimp only
     have hi : i < es.size := by
      have := (Array.getElem?_eq_some_iff.mp q2).1
      rw [T.size] at this
      exact this
     obtain ⟨k', a, hk', ea, ta⟩ := hE es[i] (Array.mem_toList_iff.mpr (Array.getElem_mem hi))
     have hg : es[i]? = some (es[i].1, .ref a) := by rw [Array.getElem?_eq_getElem hi, ← ea]
     have rest : wpAny (model prog w) A (do
      let some (_, y) := es[i]? | unsupported "internal:set-entry"
      let equal ← holding [y] (eqBool y (.ref b))
      let (es', _, t') ← setState S
      if (adding && equal) = true then return SetFound.there none
      let some same := t'.sameMemory t.moves t.mask | unsupported "set.changed-during-lookup:is-the-new-block-at-the-old-address"
      let still ← match (if same then t'.slot (advN t m (st.getD (t.probeStart h))).j else .empty) with
       | .live i' => match es'[i']? with
        | some (_, y') => do pure (if ← isSame y' y then some i' else none)
        | none => pure none
       | _ => pure none
      match still with
      | none => rule "set.search.anew"; setSearchFrom S (.ref b) h adding fuel none
      | some i' => if equal then return .there (some i') else setSearchFrom S (.ref b) h adding fuel (some (advN t (m + 1) (st.getD (t.probeStart h))))) Q E s := by
      rw [hg]
      dsimp only
      refine wpAny_bind (wpAny_holding (wpAny_eqBool_tuple hu ta hx ?_))
      have hne : decide (k' = k) = false := decide_eq_false fun z => hk (z ▸ hk')
      rw [hne]
      refine wpAny_bind (wpAny_setState_of ho hd hfit ?_)
      dsimp only
      rw [Bool.and_false]
      simp only [Bool.false_eq_true, if_false]
      have hsm : t.sameMemory t.moves t.mask = some true := by unfold SetTable.sameMemory; simp
      rw [hsm]
      dsimp only
      rw [if_pos rfl, q1]
      dsimp only
      rw [hg]
      dsimp only
      have hsame : isSame (Value.ref a) (Value.ref a) = pure true := by
       unfold isSame
       dsimp only
       rw [if_pos (by simp)]
      rw [hsame]
      refine wpAny_bind (wpAny_bind (wpAny_pure (wpAny_pure ?_)))
      rw [if_pos rfl]
      refine ih (N - (m + 1)) (by omega) fuel (some (advN t (m + 1) (st.getD (t.probeStart h)))) (fun p hp => by cases hp; exact Vp.advN (m + 1) v) (by omega) ?_ ?_ (by omega) hQ
      · show t.slot (advN t (N - (m + 1)) (advN t (m + 1) (st.getD (t.probeStart h)))).j = .empty
        rw [← cZ, show m + 1 + (N - (m + 1)) = N by omega]
        exact he
      · intro x hx'
        show t.slot (advN t x (advN t (m + 1) (st.getD (t.probeStart h)))).j ≠ .empty
        rw [← cZ]
        exact hn _ (by omega)
     by_cases hled : t.led = true
     · rw [hled]
       simp only [Bool.not_true, Bool.false_eq_true, if_false]
       exact rest
     · have hled' : t.led = false := by simpa using hled
       rw [hled']
       simp only [Bool.not_false, if_true]
       refine wpAny_bind (vK hx (fun v hv => ?_) ?_)
       · obtain ⟨e, he', rfl⟩ := List.mem_map.mp hv
         have hem : e ∈ es.toList := by
          have := Array.mem_toList_iff.mp he'
          rw [Array.mem_filter] at this
          exact Array.mem_toList_iff.mpr this.1
         obtain ⟨k2, a2, _, e2, t2⟩ := hE e hem
         exact ⟨k2, a2, e2, t2⟩
       · simp only [Bool.false_eq_true, if_false]
         exact rest
end
section
variable {prog : Program} {w : World} {A : Around} {E : Value → Shared → Prop} {s : Shared}
abbrev byT (w : World) : Bool := w.params.followText "set-order"
def SetT (prog : Program) (w : World) (h : Heap) (S : Addr) (ks : List (List Str)) (vs : List Value) (n : Nat) : Prop :=
 ∃ o es ep t, h.get? S = some o ∧ o.ExactSet ∧ o.data = .set es ep t ∧ es.size = n ∧ Tb t n ∧ ((t.mask = 7 ∧ n ≤ 4) ∨ (t.mask = 31 ∧ n ≤ 18)) ∧ Ent prog w h ks es.toList ∧ (es.toList.map (·.2)).Perm vs ∧ t.led = (!byT w) ∧ ((∀ k ∈ ks, k ≠ []) → n ≠ 0 → t.plain = false)
theorem iL {k : List Str} {a : Addr} {Q : Bool → Shared → Prop} (hk : TK prog w s.heap k a) (h : ∀ b, (k ≠ [] → b = false) → Q b s) : wpAny (model prog w) A (hashByValue 8 (.ref a)) Q E s := by
 have hT := hk.typeIs
 obtain ⟨o, items, n, ho, _, hd, hi⟩ := hk
 have h0 : items.toList = [] → k = [] := fun e => by
  rw [e] at hi
  cases hi
  rfl
 unfold hashByValue
 refine wpAny_bind (wpAny_specialOf hT F.slot_tuple_hash.lookup ?_)
 dsimp only
 refine wpAny_bind (wpAny_seqItems ho hd ?_)
 refine wpAny_bind ?_
 show wpAny _ _ (forIn items _ _) _ _ s
 rw [← Array.forIn_toList]
 refine wpAny_forIn_list _ (fun rest r s' => r.1 = none ∧ s' = s ∧ (∀ v ∈ rest, ∃ x t, v = Value.str x t) ∧ (rest = [] → k = [])) _ ?_ ?_ _ _ ⟨rfl, rfl, eA hi, h0⟩
 · rintro v rest r s' ⟨hr, rfl, hall, _⟩
   obtain ⟨x, t, rfl⟩ := hall v List.mem_cons_self
   refine wpAny_bind (wpAny_pure ?_)
   simp only [Bool.not_false, if_true]
   refine wpAny_pure ?_
   exact wpAny_pure (h _ fun _ => rfl)
 · rintro ⟨r1, r2⟩ s' ⟨hr, rfl, _, h1⟩
   simp only at hr
   subst hr
   exact wpAny_pure (h _ fun z => absurd (h1 rfl) z)
theorem TK.keeps {h h' : Heap} {k : List Str} {a S : Addr} {o : Obj} {es ep t} (x : TK prog w h k a) (ho : h.get? S = some o) (hd : o.data = .set es ep t) (hs : Heap.SameBut S h h') : TK prog w h' k a := by
 obtain ⟨o', items, n, ho', hc, hd', hi⟩ := x
 have hne : a ≠ S := by
  rintro rfl
  obtain rfl : o' = o := Option.some.inj (ho'.symm.trans ho)
  rw [hd] at hd'; exact nomatch hd'
 exact ⟨o', items, n, (hs.2 a hne).trans ho', hc, hd', hi⟩
theorem Ent.keeps {h h' : Heap} {ks : List (List Str)} {l : List (Int × Value)} {S : Addr} {o : Obj} {es ep t} (x : Ent prog w h ks l) (ho : h.get? S = some o) (hd : o.data = .set es ep t) (hs : Heap.SameBut S h h') : Ent prog w h' ks l := fun e he => by
 obtain ⟨k, a, h1, h2, h3⟩ := x e he
 exact ⟨k, a, h1, h2, h3.keeps ho hd hs⟩
theorem g9 {h : Heap} {S : Addr} {o : Obj} {es es' : Array (Int × Value)} {ep : Nat} {t t' : SetTable} (ho : h.get? S = some o) (hd : o.data = .set es ep t) : (h.update S (Obj.putSet es' t')).get? S = some { o with data := .set es' (ep + 1) t' } := by
 have := Heap.get?_update_self (Obj.putSet es' t') ho (by rw [putSet_of es' t' hd]; rfl)
 rw [putSet_of es' t' hd] at this; exact this
theorem Ent.insert {h : Heap} {ks : List (List Str)} {es : Array (Int × Value)} {k : List Str} {b : Addr} {p : Nat} {x : Int} (hE : Ent prog w h ks es.toList) (hb : TK prog w h k b) : Ent prog w h (k :: ks) (SetTable.insertAt es p (x, .ref b)).toList := fun e he => by
 have he' := (SetTable.insertAt_perm es p (x, Value.ref b)).mem_iff.mp he
 rw [Array.toList_push] at he'
 rcases List.mem_append.mp he' with q | q
 · obtain ⟨k', a, h1, h2, h3⟩ := hE e q
   exact ⟨k', a, List.mem_cons_of_mem _ h1, h2, h3⟩
 · rw [List.mem_singleton] at q
   subst q
   exact ⟨k, b, List.mem_cons_self, rfl, hb⟩
theorem mh {t : SetTable} {n : Nat} (T : Tb t n) : t.fill = n := by unfold SetTable.fill; rw [T.size, T.dm]; simp
theorem fz {n : Nat} (h : n ≤ 18) : n ≤ sizeLine := by rw [sizeLine_eq]; omega
theorem oI {α : Type} (es : Array α) : (List.range es.size).filterMap (fun i => es[i]?) = es.toList := by
 apply List.ext_getElem?
 intro i
 have : (List.range es.size).filterMap (fun i => es[i]?) = (List.range es.size).pmap (fun i h => es[i]) (fun i h => List.mem_range.mp h) := by
  rw [List.pmap_eq_map_attach, ← List.filterMap_eq_map]
  conv => lhs; rw [← List.attach_map_subtype_val (List.range es.size)]
  rw [List.filterMap_map]
  congr 1
  funext ⟨i, hi⟩
  simp [List.mem_range.mp hi]
 rw [this]
 simp [List.getElem?_pmap, List.getElem?_range]
 by_cases hi : i < es.size
 · simp [hi]
 · simp [hi]
theorem rF {m finger moves : Nat} {led plain : Bool} {hs : Array Int} {t : SetTable} {order : Array Nat} (e : laid m finger moves led plain hs = some (t, order)) : t.led = led ∧ t.plain = plain := by
 unfold laid at e
 cases hc : layClean m hs with
 | none => rw [hc] at e; cases e
 | some o => rw [hc] at e; cases e; exact ⟨rfl, rfl⟩
theorem vL {S b : Addr} {ks : List (List Str)} {vs : List Value} {n : Nat} {k : List Str} {Q : Bool → Shared → Prop} (hu : A.units < cLine) (hS : SetT prog w s.heap S ks vs n) (hx : TK prog w s.heap k b) (hk : k ∉ ks) (hn : n + 1 ≤ 18)
 (h : ∀ h', Heap.SameBut S s.heap h' → SetT prog w h' S (k :: ks) (.ref b :: vs) (n + 1) → Q true { s with heap := h' }) : wpAny (model prog w) A (setAddHashed S (.ref b) (hsh prog w k)) Q E s := by
 obtain ⟨o, es, ep, t, ho, hex, hd, hsz, T, hm, hE, hpm, hled, hpl0⟩ := hS
 have hfit := iK T
 have hfit' : t.fits es.size = true := by rw [hsz]; exact hfit
 have hodd : t.mask % 2 = 1 := by rcases hm with ⟨e, _⟩ | ⟨e, _⟩ <;> rw [e]
 have hroom : n + 1 ≤ t.mask := by rcases hm with ⟨e, q⟩ | ⟨e, q⟩ <;> omega
 unfold setAddHashed setAddHashedIn
 refine wpAny_holding (wpAny_bind (wpAny_setState_of ho hd hfit' ?_))
 dsimp only
 have hbs : byScan (Value.ref b) es = false := by unfold byScan; rfl
 rw [hbs]
 simp only [Bool.false_eq_true, if_false]
 unfold setSearch
 obtain ⟨N, h1, h2, h3⟩ := vI T (l4 (t := t) (hsh prog w k))
 have hmk : t.mask ≤ 31 := by rcases hm with ⟨e, _⟩ | ⟨e, _⟩ <;> omega
 refine wpAny_bind (mf (ks := ks) hu ho hd (by rw [hsz]; exact T) hodd hE hx hk N 100000 none (fun p hp => by cases hp) (by unfold turns at h1; omega) h2 h3 h1 fun j => ?_)
 dsimp only
 refine wpAny_bind (wpAny_setState_of ho hd hfit' ?_)
 dsimp only
 obtain ⟨P1, P2, P3, P4, P5⟩ := vJ T hroom j
 have hpm1 : ((SetTable.insertAt es (t.put j).2 (hsh prog w k, Value.ref b)).toList.map (·.2)).Perm (.ref b :: vs) := by
  refine ((SetTable.insertAt_perm es (t.put j).2 (hsh prog w k, Value.ref b)).map (·.2)).trans ?_
  rw [Array.toList_push, List.map_append]
  exact (hpm.append_right _).trans (List.perm_append_singleton _ _)
 have go : ∀ bv : Bool, ((∀ x ∈ k :: ks, x ≠ []) → (if bv then (t.put j).1 else { (t.put j).1 with plain := false }).plain = false) → wpAny (model prog w) A (do
  storeSet S (SetTable.insertAt es (t.put j).2 (hsh prog w k, .ref b)) (if bv then (t.put j).1 else { (t.put j).1 with plain := false })
  if (!false && (if bv then (t.put j).1 else { (t.put j).1 with plain := false }).tooFull) = true then setRelay S (SetTable.grown (es.size + 1))
  return true) Q E s := by
  intro bv hbv
  have T2 : ∃ t2, (if bv then (t.put j).1 else { (t.put j).1 with plain := false }) = t2 ∧ Tb t2 (n + 1) ∧ t2.mask = t.mask ∧ t2.led = t.led := by
   cases bv with
   | true => exact ⟨_, rfl, P1, P3, rfl⟩
   | false => exact ⟨_, rfl, ⟨P1.size, P1.dm, P1.cyc, P1.room⟩, P3, rfl⟩
  obtain ⟨t2, e2, T2, M2, L2⟩ := T2
  rw [e2] at hbv ⊢
  have hsz2 : (SetTable.insertAt es (t.put j).2 (hsh prog w k, Value.ref b)).size = n + 1 := by
   rw [c4 _ _ _ (by rw [hsz]; exact P2), hsz]
  refine wpAny_bind (wpAny_storeSet_of ho hd ?_ (by rw [hsz2]; exact fz hn))
  have hsb := Heap.SameBut.update s.heap S (Obj.putSet (SetTable.insertAt es (t.put j).2 (hsh prog w k, Value.ref b)) t2)
  have hg := g9 (es' := SetTable.insertAt es (t.put j).2 (hsh prog w k, Value.ref b)) (t' := t2) ho hd
  have hE2 : Ent prog w (s.heap.update S (Obj.putSet (SetTable.insertAt es (t.put j).2 (hsh prog w k, Value.ref b)) t2)) (k :: ks) (SetTable.insertAt es (t.put j).2 (hsh prog w k, Value.ref b)).toList := (hE.insert hx).keeps ho hd hsb
  by_cases hf : t2.tooFull = true
  · rw [hf]
    simp only [Bool.not_false, Bool.and_self, if_true]
    have hfl : t2.fill * 5 ≥ t2.mask * 3 := by unfold SetTable.tooFull at hf; simpa using hf
    rw [mh T2, M2] at hfl
    have h5 : n + 1 = 5 ∧ t.mask = 7 := by rcases hm with ⟨e, q⟩ | ⟨e, q⟩ <;> rw [e] at hfl <;> omega
    have hn4 : n = 4 := by omega
    unfold setRelay
    refine wpAny_bind (wpAny_bind (wpAny_setState_of hg rfl (by rw [hsz2]; exact iK T2) ?_))
    dsimp only
    rw [hsz, hn4]
    rw [if_neg (by rw [sizeLine_eq]; decide)]
    have hrl : t2.relaid ((SetTable.insertAt es (t.put j).2 (hsh prog w k, Value.ref b)).map (·.1)) (SetTable.grown (4 + 1)) = laid 31 t2.finger (t2.movedTo 31) t2.led t2.plain ((SetTable.insertAt es (t.put j).2 (hsh prog w k, Value.ref b)).map (·.1)) := by
     unfold SetTable.relaid
     rw [show sizeAbove (SetTable.grown (4 + 1)) - 1 = 31 by decide]
    obtain ⟨t3, order, r1, r2, r3, r4, r5, r6, r7⟩ := rE (finger := t2.finger) (moves := t2.movedTo 31) (led := t2.led) (plain := t2.plain) yD ((SetTable.insertAt es (t.put j).2 (hsh prog w k, Value.ref b)).map (·.1)) (by rw [Array.size_map, hsz2]; omega)
    have r8 : t3.led = t2.led ∧ t3.plain = t2.plain := rF r1
    rw [hrl, r1]
    rw [Array.size_map, hsz2] at r6 r7
    have hperm : (order.filterMap (fun i => (SetTable.insertAt es (t.put j).2 (hsh prog w k, Value.ref b))[i]?)).toList.Perm (SetTable.insertAt es (t.put j).2 (hsh prog w k, Value.ref b)).toList := by
     rw [Array.toList_filterMap]
     refine (r7.filterMap _).trans ?_
     rw [← hsz2, oI]
    have hsz3 : (order.filterMap (fun i => (SetTable.insertAt es (t.put j).2 (hsh prog w k, Value.ref b))[i]?)).size = n + 1 := by
     rw [← Array.length_toList, hperm.length_eq, Array.length_toList, hsz2]
    show wpAny (model prog w) A ((if ((order.filterMap (fun i => (SetTable.insertAt es (t.put j).2 (hsh prog w k, Value.ref b))[i]?)).size != (SetTable.insertAt es (t.put j).2 (hsh prog w k, Value.ref b)).size) = true then (unsupported "internal:set-table-lost-an-element" : Sem _) else pure (order.filterMap (fun i => (SetTable.insertAt es (t.put j).2 (hsh prog w k, Value.ref b))[i]?), t3)) >>= fun x => storeSet S x.1 x.2) _ _ _
    rw [if_neg (by rw [hsz3, hsz2]; simp)]
    refine wpAny_bind (wpAny_pure ?_)
    refine wpAny_storeSet_of hg rfl ?_ (by rw [hsz3]; exact fz hn)
    have hsb2 := Heap.SameBut.update (s.heap.update S (Obj.putSet (SetTable.insertAt es (t.put j).2 (hsh prog w k, Value.ref b)) t2)) S (Obj.putSet (order.filterMap (fun i => (SetTable.insertAt es (t.put j).2 (hsh prog w k, Value.ref b))[i]?)) t3)
    refine wpAny_pure (h _ (hsb.trans hsb2) ⟨_, _, _, t3, g9 hg rfl, hex, rfl, hsz3, r6, .inr ⟨r2, hn⟩, ?_, (hperm.map (·.2)).trans hpm1, r8.1.trans (L2.trans hled), fun z _ => r8.2.trans (hbv z)⟩)
    have hE3 := hE2.keeps hg rfl hsb2
    exact fun e he => hE3 e (hperm.mem_iff.mp he)
  · have hf' : t2.tooFull = false := by simpa using hf
    rw [hf']
    simp only [Bool.not_false, Bool.and_false, Bool.false_eq_true, if_false]
    have hfl : ¬ (t2.fill * 5 ≥ t2.mask * 3) := by unfold SetTable.tooFull at hf'; simpa using hf'
    rw [mh T2, M2] at hfl
    refine wpAny_pure (h _ hsb ⟨_, _, _, t2, hg, hex, rfl, hsz2, T2, ?_, hE2, hpm1, L2.trans hled, fun z _ => hbv z⟩)
    rw [M2]
    rcases hm with ⟨e, q⟩ | ⟨e, q⟩
    · exact .inl ⟨e, by omega⟩
    · exact .inr ⟨e, hn⟩
 cases hpl : (t.put j).1.plain with
 | true =>
  simp only [if_true]
  refine wpAny_bind (iL hx fun bv hb => ?_)
  refine go bv fun z => ?_
  rw [hb (z k List.mem_cons_self)]
  rfl
 | false =>
  simp only [Bool.false_eq_true, if_false]
  refine wpAny_bind (wpAny_pure ?_)
  exact go true fun _ => hpl
end
end ST
namespace ST
open PySem PySem.SetTable PyProof.Rows
section
variable {prog : Program} {w : World} {A : Around} {R : Result → Shared → Prop} {I : Addr} {fp wr : List Addr} {G : Array GenState → Array GenState → Prop} {n : Nat} {P : Nat → Value → Prop} {St : Nat → Shared → Prop}
theorem TK.moved {h h' : Heap} {k : List Str} {a : Addr} (x : TK prog w h k a) (hm : ∀ o, h.get? a = some o → h'.get? a = some o) : TK prog w h' k a := by
 obtain ⟨o', items, n, ho', hc, hd', hi⟩ := x
 exact ⟨o', items, n, hm _ ho', hc, hd', hi⟩
theorem SetT.moved {h h' : Heap} {S : Addr} {ks : List (List Str)} {vs : List Value} {n : Nat} (x : SetT prog w h S ks vs n) (hS : ∀ o, h.get? S = some o → h'.get? S = some o) (hm : ∀ k ∈ ks, ∀ a, TK prog w h k a → TK prog w h' k a) : SetT prog w h' S ks vs n := by
 obtain ⟨o, es, ep, t, ho, hex, hd, hsz, T, hmk, hE, hr⟩ := x
 exact ⟨o, es, ep, t, hS _ ho, hex, hd, hsz, T, hmk, fun e he => let ⟨k, a, h1, h2, h3⟩ := hE e he; ⟨k, a, h1, h2, hm k h1 a h3⟩, hr⟩
theorem rG (W : WalksS prog w A.in1 I fp wr G n P St) (S : Addr) (hSf : S ∉ fp) (hu : A.in1.units < cLine) (hwr : wr = [I]) (hI : ∀ i s, St i s → ∃ o vs, s.heap.get? I = some o ∧ o.data = .fields vs)
 (adr : Nat → Addr) (key : Nat → List Str) (hval : ∀ i v, P i v → v = .ref (adr i)) (hn : n ≤ 18) (hdist : ∀ i j, i < n → j < n → key i = key j → i = j) :
 ∀ (k i : Nat) (s : Shared), n - i = k → i ≤ n → St i s → (∀ j, j < n → TK prog w s.heap (key j) (adr j)) →
  SetT prog w s.heap S (((List.range i).map key).reverse) (((List.range i).map fun j => Value.ref (adr j)).reverse) i →
  (∀ s', Moved (S :: wr) G s s' → SetT prog w s'.heap S (((List.range n).map key).reverse) (((List.range n).map fun j => Value.ref (adr j)).reverse) n → R (.ok (.ret .none)) s') →
  codeAny (model prog w) A (.builtin "set.update.loop" ⟨[.ref S, .ref I], []⟩) R s := by
 have hSw : S ∉ wr := fun h => hSf (W.sub _ h)
 have hsub : ∀ b ∈ wr, b ∈ S :: wr := fun b hb => List.mem_cons_of_mem _ hb
 have notI : ∀ {i : Nat} {s : Shared} {k : List Str} {a : Addr}, St i s → TK prog w s.heap k a → a ∉ wr := fun {i s k a} hst x hm => by
  rw [hwr, List.mem_singleton] at hm
  subst hm
  obtain ⟨o', items, n, ho', hc, hd', hi⟩ := x
  obtain ⟨o, vs, ho, hd⟩ := hI _ _ hst
  rw [ho] at ho'
  cases ho'
  rw [hd] at hd'
  cases hd'
 intro k
 induction k with
 | zero =>
  intro i s hk hi hst hT hS hR
  have hin : i = n := by omega
  subst hin
  refine codeAny_builtin F.entry_set_update_loop ?_
  rw [Around.under_plainId F.plain_set_update_loop _]
  show wpAny _ A.in1 (pyNext (.ref I) >>= _) _ _ s
  refine wpAny_bind (W.done s _ _ hst fun s' hm => ?_)
  show wpAny _ A.in1 (ret Value.none) _ _ s'
  exact wpAny_pure (hR s' (hm.mono hsub) (hS.moved (fun o ho => hm.heap S _ hSw ho) fun k' _ a x => x.moved fun o ho => hm.heap a _ (notI hst x) ho))
 | succ k ih =>
  intro i s hk hi hst hT hS hR
  have hlt : i < n := by omega
  refine codeAny_builtin F.entry_set_update_loop ?_
  rw [Around.under_plainId F.plain_set_update_loop _]
  show wpAny _ A.in1 (pyNext (.ref I) >>= _) _ _ s
  refine wpAny_bind (W.item i s _ _ hlt hst fun v s' hP hst' hm => ?_)
  have hv := hval i v hP
  subst hv
  have hT' : ∀ j, j < n → TK prog w s'.heap (key j) (adr j) := fun j hj => (hT j hj).moved fun o ho => hm.heap _ _ (notI hst (hT j hj)) ho
  have hS' : SetT prog w s'.heap S (((List.range i).map key).reverse) (((List.range i).map fun j => Value.ref (adr j)).reverse) i := hS.moved (fun o ho => hm.heap S _ hSw ho) fun k' _ a x => x.moved fun o ho => hm.heap a _ (notI hst x) ho
  show wpAny _ A.in1 (holding [Value.ref (adr i)] (setAdd S (.ref (adr i))) >>= _) _ _ s'
  refine wpAny_bind (wpAny_holding ?_)
  unfold setAdd
  refine wpAny_holding ?_
  refine wpAny_bind (wpAny_pyHash_tuple hu (hT' i hlt) ?_)
  have hnew : key i ∉ ((List.range i).map key).reverse := fun hm => by
   rw [List.mem_reverse] at hm
   obtain ⟨j, hj, e⟩ := List.mem_map.mp hm
   have hj' := List.mem_range.mp hj
   have := hdist j i (by omega) hlt e
   omega
  refine vL (s := { s' with toks := s'.toks + ((key i).length + 1) }) hu hS' (hT' i hlt) hnew (by omega) fun h' hsb hS2 => ?_
  obtain ⟨oS, esS, epS, tS, hoS, _, hdS, _⟩ := hS'
  have hS3 : SetT prog w h' S (((List.range (i + 1)).map key).reverse) (((List.range (i + 1)).map fun j => Value.ref (adr j)).reverse) (i + 1) := by
   rw [List.range_succ, List.map_append, List.reverse_append, List.map_append, List.reverse_append]
   exact hS2
  refine wpAny_pure ⟨plainId_quiet F.plain_set_update_loop _, ih (i + 1) _ (by omega) hlt (W.frame _ s' _ _ hst' (by simp) fun b hb o e => ?_) (fun j hj => (hT' j hj).keeps hoS hdS hsb) hS3 fun s'' hm'' hS'' => ?_⟩
  · rw [hsb.2 b (fun h : b = S => hSf (by rw [← h]; exact hb))]; exact e
  · refine hR s'' (Moved.trans W.gtrans ((hm.mono hsub).then_heap (by simp) fun b o hb e => ?_) hm'') hS''
    rw [hsb.2 b (fun h : b = S => hb (by rw [h]; exact List.mem_cons_self))]; exact e
end
section
variable {prog : Program} {w : World} {A : Around} {E : Value → Shared → Prop} {s : Shared}
end
end ST
namespace FD
open PySem PySem.Spec PyProof.Rows L2
section
variable {X : Cx} {pins : List (Addr × Obj)} {σ : L2.St} {H : Hp} {s : Shared}
end
section
variable {X : Cx} {p p2 pos pos2 : Pos} {e : Expr} {ga : FnA}
end
section
variable {X : Cx}
end
def kq (a b : Str) (fo : FnE) : FnE := fun ρ => bnd (fo ρ) fun d => match d with
 | .str x => if x.length ≤ 100000 then some (.ok (.str (Txt.replace x a b))) else none
 | _ => none
def xo (fo : FnE) : FnE := fun ρ => bnd (fo ρ) fun d => match d with
 | .str x => some (.ok (.bl (Txt.isalnum x)))
 | _ => none
def frs {α : Type} (P : α → Bool) : Sem α → Bool
 | .pure a => P a
 | .fresh _ => true
 | .at _ k => frs P (k ())
 | .rule _ k => frs P (k ())
 | .point _ k => frs P (k ())
 | _ => false
theorem vM {α : Type} (M : Model) (Γ : PySem.Ctx) (P : α → Bool) (t : Sem α) : ∀ (Q : α → Pos → Shared → Prop) (E : Value → Pos → Shared → Prop) (p : Pos) (s : Shared), frs P t = true → Sem.wp M Γ t Q E p s →
 Sem.wp M Γ t (fun a p' s' => (P a = true ∨ 1 ≤ s'.toks) ∧ Q a p' s') E p s := by
 induction t with
 | pure a => intro Q E p s h w; exact ⟨.inl h, w⟩
 | fresh k ih =>
  intro Q E p s h w
  exact Sem.wp_mono M Γ _ (fun a p' s' z => ⟨.inr z.1, z.2⟩) (fun _ _ _ z => z.2) _ _ (Sem.wp_toks M Γ 1 (k _) Q E p { s with toks := s.toks + 1 } (Nat.succ_le_succ (Nat.zero_le _)) w)
 | «at» p' k ih => intro Q E p s h w; exact ih () Q E p' s h w
 | rule r k ih => intro Q E p s h w; exact ih () Q E p s h w
 | point r k ih => intro Q E p s h w; exact ih () Q E p s h w
 | _ => intro Q E p s h w; exact absurd h (by simp [frs])
theorem qc {α : Type} {M : Model} {A : Around} {P : α → Bool} {t : Sem α} {Q : α → Shared → Prop} {E : Value → Shared → Prop} {s : Shared} (h : wpAny M A t Q E s) (hf : frs P t = true) :
 wpAny M A t (fun a s' => (P a = true ∨ 1 ≤ s'.toks) ∧ Q a s') E s := fun Γ p hΓ => vM M Γ P t _ _ p s hf (h Γ p hΓ)
theorem yE {α : Type} {M : Model} {A : Around} {t : Sem α} {Q Q' : α → Shared → Prop} {E : Value → Shared → Prop} {s : Shared} (h1 : 1 ≤ s.toks) (h : wpAny M A t Q E s) (hQ : ∀ a s', 1 ≤ s'.toks → Q a s' → Q' a s') : wpAny M A t Q' E s :=
 wpAny_mono (wpAny_toks_of h1 h) (fun a s' z => hQ a s' z.1 z.2) fun _ _ z => z.2
structure FE1 (X : Cx) (e : Expr) (f : FnE) : Prop where
 h : ∀ (pins : List (Addr × Obj)) (s : Shared) (σ : L2.St) (H : Hp) (Q : VK), 1 ≤ s.toks → Inv X pins σ H s → tF X f σ H Q → wpAny (model X.prog X.w) X.A (eval e X.env) (EP X pins σ Q) X.xe s
structure FT1 (X : Cx) (e : Expr) (f : FnB) : Prop where
 h : ∀ (pins : List (Addr × Obj)) (s : Shared) (σ : L2.St) (H : Hp) (Q : Bool → Hp → Prop), 1 ≤ s.toks → Inv X pins σ H s → tT X f σ H Q → wpAny (model X.prog X.w) X.A (isTrue e X.env (eval e X.env)) (TP X pins σ Q) X.xe s
structure FW1 (X : Cx) (e : Expr) (f : FnB) : Prop where
 h : ∀ (whole : Sem Value) (pins : List (Addr × Obj)) (s : Shared) (σ : L2.St) (H : Hp) (Q : Bool → Hp → Prop), 1 ≤ s.toks → Inv X pins σ H s → tT X f σ H Q → wpAny (model X.prog X.w) X.A (isTrue e X.env whole) (TP X pins σ Q) X.xe s
structure FS1 (X : Cx) (st : Stmt) (f : FnS) : Prop where
 h : ∀ (pins : List (Addr × Obj)) (s : Shared) (σ : L2.St) (H : Hp) (D : jh), 1 ≤ s.toks → Inv X pins σ H s → tS X f D σ H → wpAny (model X.prog X.w) X.A (exec st X.env) (SP X pins D) X.xe s
structure zw (X : Cx) (st : List Stmt) (f : FnS) : Prop where
 h : ∀ (pins : List (Addr × Obj)) (s : Shared) (σ : L2.St) (H : Hp) (D : jh), 1 ≤ s.toks → Inv X pins σ H s → tS X f D σ H → wpAny (model X.prog X.w) X.A (execs st X.env) (SP X pins D) X.xe s
structure FTg (X : Cx) (e : Expr) (f : FnB) : Prop where
 h : ∀ (pins : List (Addr × Obj)) (s : Shared) (σ : L2.St) (H : Hp) (Q : Bool → Hp → Prop), Inv X pins σ H s → tT X f σ H Q → wpAny (model X.prog X.w) X.A (isTrue e X.env (eval e X.env)) (fun b s' => (b = true ∨ 1 ≤ s'.toks) ∧ TP X pins σ Q b s') X.xe s
structure FWg (X : Cx) (e : Expr) (f : FnB) : Prop where
 h : ∀ (whole : Sem Value) (pins : List (Addr × Obj)) (s : Shared) (σ : L2.St) (H : Hp) (Q : Bool → Hp → Prop), Inv X pins σ H s → tT X f σ H Q → wpAny (model X.prog X.w) X.A (isTrue e X.env whole) (fun b s' => (b = true ∨ 1 ≤ s'.toks) ∧ TP X pins σ Q b s') X.xe s
def qd : Flow → Bool
 | .next => true
 | _ => false
structure FSg (X : Cx) (st : Stmt) (f : FnS) : Prop where
 h : ∀ (pins : List (Addr × Obj)) (s : Shared) (σ : L2.St) (H : Hp) (D : jh), Inv X pins σ H s → tS X f D σ H → wpAny (model X.prog X.w) X.A (exec st X.env) (fun fl s' => (qd fl = false ∨ 1 ≤ s'.toks) ∧ SP X pins D fl s') X.xe s
section
variable {X : Cx} {a b o e : Expr} {fa fo : FnE} {ga gb : FnB} {f g : FnS} {rest : List Expr} {st : Stmt} {sts as bs : List Stmt} {pos apos cpos : Pos}
theorem FE.to1 (h : FE X e fa) : FE1 X e fa := ⟨fun pins s σ H Q _ I q => h.h pins s σ H Q I q⟩
theorem jN {y z : Str} {ja jb : Nat} {pa pb : Pos} (ho : FE1 X o fo) (hyz : (y == z) = false := by kernel_rfl) (hz : z.length ≤ 10 := by decide +kernel)
 (hbase : attributeBase o "replace" X.env (eval o X.env) = eval o X.env := by kernel_rfl)
 (hfew : ((backTo cpos (starEach [.Constant (.str y) ja pa, .Constant (.str z) jb pb] X.env)).all (fun x => !x.1) && (backToKw cpos (keywordEach [] X.env)).all (fun x => x.1.isSome)
   && decide (([.Constant (.str y) ja pa, .Constant (.str z) jb pb] : List Expr).length + ([] : List Keyword).length + (if ([] : List Keyword).isEmpty then 0 else 1) < 30)) = true := by kernel_rfl)
 (hline : (apos.endLine == cpos.line) = true := by kernel_rfl) :
 FE1 X (.Call (.Attribute o "replace" apos) [.Constant (.str y) ja pa, .Constant (.str z) jb pb] [] cpos) (kq y z fo) := by
 refine ⟨fun pins s σ H Q h1 I ⟨ρ, E, q⟩ => ?_⟩
 have q0 : Out X H (fo ρ) (fun v H1 => ∃ x, v = .str x ∧ x.length ≤ 100000 ∧ Q (.str (Txt.replace x y z)) H1) := Out.bind q fun d v H1 e1 rd o1 => by
  cases d <;> try exact (show False from o1).elim
  rename_i i
  dsimp only at o1
  split at o1
  · rename_i hl
    exact ⟨i, rd, hl, o1 _ H1 (.refl H1) rfl⟩
  · exact o1.elim
 refine wpAny_Call_method_late hbase hfew hline rfl (yE h1 (ho.h pins s σ H _ h1 I ⟨ρ, E, q0⟩) fun v s1 ht ⟨x, H1, I1, r1, q1⟩ => ?_)
 obtain ⟨i, rfl, hl, q2⟩ := q1
 obtain ⟨hT, hd⟩ := lc (T := "str") I1 r1 rfl
 obtain ⟨t, rfl⟩ := r1
 refine ⟨"str", "str.replace", PySem.F.plainAttrs_str, PySem.F.slot_str_replace, PySem.F.type_str_replace, hT, hd, ?_⟩
 refine Calls.callWith_builtin (by rfl) (Calls.evalArgs_plain ?_)
 refine Calls.spliced_cons (Calls.Constant_str (k := ja) (pos := pa) (Calls.spliced_cons (Calls.Constant_str (k := jb) (pos := pb) (Calls.spliced_nil ?_))))
 have h2 : 1 ≤ s1.toks := ht
 refine SC.replace (t := t) (u := s1.toks) (v := s1.toks + 1) (fun h => ?_) (fun h => ?_) (fun h => ?_) hyz ?_ fun t' k => ?_
 · exact Nat.lt_irrefl 0 (Nat.lt_of_lt_of_le Nat.zero_lt_one (h ▸ h2))
 · exact Nat.succ_ne_zero _ h
 · exact Nat.succ_ne_self _ h.symm
 · have : (i.length + 1) * z.length ≤ (100000 + 1) * 10 := Nat.mul_le_mul (by omega) hz
   omega
 · exact ⟨.str _, H1, (I1.tok k), ⟨_, rfl⟩, q2⟩
theorem rH (ho : FE1 X o fo) (hbase : attributeBase o "isalnum" X.env (eval o X.env) = eval o X.env := by kernel_rfl) (hline : (apos.endLine == cpos.line) = true := by kernel_rfl) :
 FE1 X (.Call (.Attribute o "isalnum" apos) [] [] cpos) (xo fo) := by
 refine ⟨fun pins s σ H Q h1 I ⟨ρ, E, q⟩ => ?_⟩
 have q0 : Out X H (fo ρ) (fun v H1 => ∃ x, v = .str x ∧ Q (.bl (Txt.isalnum x)) H1) := Out.bind q fun d v H1 e1 rd o1 => by
  cases d <;> try exact (show False from o1).elim
  rename_i i
  exact ⟨i, rd, o1 _ H1 (.refl H1) rfl⟩
 refine wpAny_Call_method0_late hbase hline (thn (ho.h pins s σ H _ h1 I ⟨ρ, E, q0⟩) fun v s1 ⟨x, H1, I1, r1, q1⟩ => ?_)
 obtain ⟨i, rfl, q2⟩ := q1
 obtain ⟨hT, hd⟩ := lc (T := "str") I1 r1 rfl
 obtain ⟨t, rfl⟩ := r1
 refine ⟨"str", "str.isalnum", PySem.F.plainAttrs_str, PySem.F.slot_str_isalnum, PySem.F.type_str_isalnum, hT, hd, ?_⟩
 exact Calls.callWith_builtin rfl (PySem.evalArgs_none (SC.isalnum ⟨.bl _, H1, I1, rfl, q2⟩))
theorem rJ (ha : FE1 X a fa) (he : ∀ whole, isTrue a X.env whole = (do let v ← whole; standAt a.pos; holding [v] (truthy v)) := by intro _; kernel_rfl) : FT1 X a (fB fa) := by
 refine ⟨fun pins s σ H Q h1 I ⟨ρ, E, q⟩ => ?_⟩
 have q0 : Out X H (fa ρ) (fun v H1 => ∃ d, v = .bl d ∧ Q d H1) := Out.bindB q fun d v H' e r o' => dI r o'
 refine isTrue_plain (thn (ha.h pins s σ H _ h1 I ⟨ρ, E, q0⟩) fun v s1 ⟨x, H1, I1, r1, q1⟩ => ?_) (he _)
 obtain ⟨d, rfl, q⟩ := q1
 cases r1
 exact wpAny_truthy_bool ⟨H1, I1, q⟩
theorem rK (ha : FT1 X a ga) : FT1 X (.UnaryOp .Not a pos) (eQ ga) := by
 refine ⟨fun pins s σ H Q h1 I ⟨ρ, E, q⟩ => ?_⟩
 exact isTrue_not (ha.h pins s σ H (fun c H1 => Q (!c) H1) h1 I ⟨ρ, E, OutB.bindB q fun k H1 e o' => o' H1 (.refl H1)⟩)
theorem qe {ρ : Ev} {H : Hp} {Q : Bool → Hp → Prop} {σ : L2.St} (E : Envs X.K H σ ρ) (q : OutB X H (bOr ga gb ρ) Q) : tT X ga σ H fun c H1 => if c = true then Q true H1 else tT X gb σ H1 Q :=
 ⟨ρ, E, OutB.bindB q fun k H1 e o' => by
  cases k with
  | true => exact nq (o' H1 (.refl H1))
  | false => exact nn ⟨ρ, E.mono e, o'⟩⟩
theorem mi (h : FT X e ga) (hf : frs (fun _ => false) (isTrue e X.env (eval e X.env)) = true) : FTg X e ga :=
 ⟨fun pins s σ H Q I q => thn (qc (h.h pins s σ H Q I q) hf) fun b s' z => ⟨.inr (z.1.resolve_left (by decide)), z.2⟩⟩
theorem vN (ha : FT X a ga) (hb : FWg X (.BoolOp .Or (b :: rest) pos) gb) : FWg X (.BoolOp .Or (a :: b :: rest) pos) (bOr ga gb) := by
 refine ⟨fun wh pins s σ H Q I ⟨ρ, E, q⟩ => ?_⟩
 refine isTrue_or (thn (ha.h pins s σ H _ I (qe E q)) fun c s1 ⟨H1, I1, q1⟩ => ?_)
 cases c with
 | true => exact ⟨.inl rfl, H1, I1, q1⟩
 | false => exact hb.h wh pins s1 σ H1 Q I1 q1
theorem rL (ha : FTg X a ga) (hb : FW X (.BoolOp .Or (b :: rest) pos) gb) : FWg X (.BoolOp .Or (a :: b :: rest) pos) (bOr ga gb) := by
 refine ⟨fun wh pins s σ H Q I ⟨ρ, E, q⟩ => ?_⟩
 refine isTrue_or (thn (ha.h pins s σ H _ I (qe E q)) fun c s1 ⟨tk, H1, I1, q1⟩ => ?_)
 cases c with
 | true => exact ⟨.inl rfl, H1, I1, q1⟩
 | false => exact yE (tk.resolve_left (by decide)) (hb.h wh pins s1 σ H1 Q I1 q1) fun b s' z w => ⟨.inr z, w⟩
theorem FWg.ft (h : FWg X e ga) : FTg X e ga := ⟨h.h _⟩
theorem qf {ρ : Ev} {H : Hp} {D : jh} {σ : L2.St} (E : Envs X.K H σ ρ) (q : OutS X H (bL ga f g ρ) D) : tT X ga σ H fun c H1 => if c = true then tS X f D σ H1 else tS X g D σ H1 :=
 ⟨ρ, E, OutB.bindS q fun k H1 e o1 => by
  cases k with
  | true => exact nq ⟨ρ, E.mono e, o1⟩
  | false => exact nn ⟨ρ, E.mono e, o1⟩⟩
theorem vO (hc : FTg X a ga) (ha : FSs X as f) (hb : FSs X bs g) (hr : frs (fun fl => !qd fl) (execs as X.env) = true := by kernel_rfl) : FSg X (.If a as bs pos) (bL ga f g) := by
 refine ⟨fun pins s σ H D I ⟨ρ, E, q⟩ => ?_⟩
 refine wpAny_If (thn (hc.h pins s σ H _ I (qf E q)) fun d s1 ⟨tk, H1, I1, q1⟩ => ?_)
 cases d with
 | true => exact thn (qc (ha.h pins s1 σ H1 D I1 q1) hr) fun fl s' z => ⟨z.1.imp (fun w => by simpa using w) id, z.2⟩
 | false => exact yE (tk.resolve_left (by decide)) (hb.h pins s1 σ H1 D I1 q1) fun fl s' z w => ⟨.inr z, w⟩
theorem mj {ρ : Ev} {H : Hp} {D : jh} {σ : L2.St} (E : Envs X.K H σ ρ) (o : OutS X H (aT f g ρ) D) : tS X f { D with nx := tS X g D } σ H :=
 ⟨ρ, E, by
  unfold aT at o
  match hf : f ρ with
  | none => rw [hf] at o; exact o.elim
  | some (.exc c) => rw [hf] at o; exact o
  | some (.rt d) => rw [hf] at o; exact o
  | some (.nx ρ') => rw [hf] at o; exact fun σ' H' e E' => ⟨ρ', E', OutS.mono e o⟩⟩
theorem oJ (h1 : FSg X st f) (h2 : zw X sts g) : FSs X (st :: sts) (aT f g) := by
 refine ⟨fun pins s σ H D I ⟨ρ, E, q⟩ => ?_⟩
 refine wpAny_execs_cons (thn (h1.h pins s σ H _ I (mj E q)) fun fl s1 q1 => ?_)
 obtain ⟨tk, q1⟩ := q1
 cases fl with
 | next =>
  obtain ⟨σ', H', I', q⟩ := q1
  exact h2.h pins s1 σ' H' D (tk.resolve_left (by decide)) I' q
 | ret v => exact q1
 | brk => exact q1
 | cont => exact q1
theorem ml (h1 : FS1 X st f) (h2 : FSs X sts g) : zw X (st :: sts) (aT f g) := by
 refine ⟨fun pins s σ H D h I ⟨ρ, E, q⟩ => ?_⟩
 refine wpAny_execs_cons (thn (h1.h pins s σ H _ h I (mj E q)) fun fl s1 q1 => ?_)
 cases fl with
 | next =>
  obtain ⟨σ', H', I', q⟩ := q1
  exact h2.h pins s1 σ' H' D I' q
 | ret v => exact q1
 | brk => exact q1
 | cont => exact q1
theorem vP (hc : FT1 X a ga) (ha : FSs X as f) (hb : FSs X bs g) : FS1 X (.If a as bs pos) (bL ga f g) := by
 refine ⟨fun pins s σ H D h I ⟨ρ, E, q⟩ => ?_⟩
 refine wpAny_If (thn (hc.h pins s σ H _ h I (qf E q)) fun d s1 ⟨H1, I1, q1⟩ => ?_)
 cases d with
 | true => exact ha.h pins s1 σ H1 D I1 q1
 | false => exact hb.h pins s1 σ H1 D I1 q1
end
section
variable {prog : Program} {w : World} {A : Around} {E : Value → Shared → Prop} {s : Shared}
end
section
variable {prog : Program} {w : World} {A : Around} {E : Value → Shared → Prop} {s : Shared}
end
structure ZSt (z TI TO i1 i2 a b : Addr) (i : Nat) (h : Heap) : Prop where
 z : IsZip h z TI TO .none
 ti : IsPair h TI (.ref i1) (.ref i2)
 to : ∃ p q, IsPair h TO p q
 j1 : h.IsTupleIter i1 a i
 j2 : h.IsTupleIter i2 b i
structure ZNe (z TI TO i1 i2 : Addr) : Prop where
 n1 : TI ≠ z
 n2 : TO ≠ z
 n3 : i1 ≠ z
 n4 : i2 ≠ z
 n5 : TI ≠ TO
 n6 : TI ≠ i1
 n7 : TI ≠ i2
 n8 : TO ≠ i1
 n9 : TO ≠ i2
 n10 : i1 ≠ i2
theorem Ac {z TI TO i1 i2 c : Addr} (h : c ∈ [z, TI, TO, i1, i2]) : c = z ∨ c = TI ∨ c = TO ∨ c = i1 ∨ c = i2 := by simpa using h
def tgG (X : Cx) (b : Dv → Ev → Option Ev) : TG := fun v σ H Q => ∃ d ρ ρ', Rep X.K H d v ∧ Envs X.K H σ ρ ∧ b d ρ = some ρ' ∧ ∀ σ' H', Same H H' → Envs X.K H' σ' ρ' → Q σ' H'
theorem FG.pg {X : Cx} {tg : Expr} {b : Dv → Ev → Option Ev} (h : FG X tg b) : PG X tg (tgG X b) := fun pins s σ H v u Q I r ⟨d, ρ, ρ', rd, E, e, q⟩ =>
 thn (h.h pins s σ H v u d ρ ρ' I r rd E e) fun _ s' ⟨σ', H', I', e1, E'⟩ => ⟨σ', H', I', q σ' H' e1 E'⟩
section
variable {X : Cx} {p pos : Pos} {e : Expr} {es : List Expr} {ga : FnA}
end
def mn (fi fe : FnE) : eT := fun ρ ds => oD (fe ρ) fun d => oD (fi ρ) fun k => match k with
 | .int k => if 0 ≤ k ∧ k < ds.length then some (.nx ρ (ds.set k.toNat d)) else none
 | _ => none
theorem Reps.set {K : PySem.W.Frag} {H : Hp} {d : Dv} {v : V} (rd : Rep K H d v) : ∀ {ds : List Dv} {vs : List V} (j : Nat), Reps K H ds vs → Reps K H (ds.set j d) (vs.set j v)
 | [], vs, j, r => by cases (show vs = [] from r); exact r
 | d0 :: ds, vs, 0, r => by
  obtain ⟨v0, vs', rfl, r0, rt⟩ : ∃ v us', vs = v :: us' ∧ Rep K H d0 v ∧ Reps K H ds us' := r
  exact ⟨v, vs', rfl, rd, rt⟩
 | d0 :: ds, vs, j + 1, r => by
  obtain ⟨v0, vs', rfl, r0, rt⟩ : ∃ v us', vs = v :: us' ∧ Rep K H d0 v ∧ Reps K H ds us' := r
  exact ⟨v0, vs'.set j v, rfl, r0, Reps.set rd j rt⟩
section
variable {X : Cx} {i : Nat} {e ix : Expr} {fe fi : FnE} {pos ps : Pos}
theorem oK (hex : X.ex = []) {x : Str} {apos : Pos} (hx : PE X (.Name x apos) (pA i)) (hi : FE X ix fi) (he : FE X e fe)
 (hs : swapsWithSole [.Subscript (.Name x apos) ix ps] e pos.line X.env = pure false := by kernel_rfl) (hw : swappedStores [.Subscript (.Name x apos) ix ps] e X.env = pure none := by kernel_rfl)
 (h1 : (assignEach [.Subscript (.Name x apos) ix ps] X.env).map (·.2) = [assign (.Subscript (.Name x apos) ix ps) X.env] := by kernel_rfl)
 (ha : ∀ v, assign (.Subscript (.Name x apos) ix ps) X.env v = (do let ov ← holding [v] (eval (.Name x apos) X.env); let iv ← holding [v, ov] (eval ix X.env); standAt ps; holding [v, ov, iv] (setItem ov iv v); release [v, ov, iv] []) := by intro _; kernel_rfl) :
 FO1 X i (.Assign [.Subscript (.Name x apos) ix ps] e pos) (mn fi fe) := ⟨fun pins s σ Hf D I ⟨H, a, xs, ρ, ds, e1, ha', hia, E, r, o⟩ => by
 refine tW (iH hex he.h) (tU hx (iH hex hi.h) nM ha) hs hw h1 pins s σ Hf D I ⟨H, a, xs, e1, ha', ρ, E, ?_⟩
 unfold mn at o
 match hfe : fe ρ with
 | none => rw [hfe] at o; exact o.elim
 | some (.exc _) => rw [hfe] at o; exact o.elim
 | some (.ok d) =>
  rw [hfe] at o
  match hfi : fi ρ with
  | none => dsimp only [oD] at o; rw [hfi] at o; exact o.elim
  | some (.exc _) => dsimp only [oD] at o; rw [hfi] at o; exact o.elim
  | some (.ok k) =>
   dsimp only [oD] at o
   rw [hfi] at o
   dsimp only at o
   intro v H' e' rd ha2
   refine ⟨.ref a, hia, H', a, xs, rfl, ha2, ρ, E.mono e', ?_⟩
   show Out X H' (fi ρ) _
   rw [hfi]
   intro w H2 e2 rk ha3
   cases k <;> try exact (show False from o).elim
   rename_i k
   dsimp only at o
   split at o
   · rename_i hk
     cases (show w = .int k from rk)
     have hl := r.length
     have hj : ixN xs.length k = some k.toNat := by
      unfold ixN
      rw [if_pos hk.1, if_pos (by omega)]
     refine ⟨a, xs, k, k.toNat, rfl, rfl, am, hj, ?_⟩
     rw [qv]
     exact o σ H2 (xs.set k.toNat v) (e'.trans e2) ha3 hia (E.mono (e'.trans e2)) (Reps.set (Rep.mono e2 _ _ rd) k.toNat (Reps.mono (e'.trans e2) _ _ r))
   · exact o.elim⟩
end
def rM : List Dv → Option (Rs Dv)
 | [.str x] => if x.length ≤ 640 then (match PySem.intText? x with | some n => some (.ok (.int n)) | none => none) else none
 | _ => none
section
variable {X : Cx} {p pos : Pos} {e : Expr} {es : List Expr} {ga : FnA}
theorem mo : CallR X (.type "int") (fun xs H Q => ∃ x i, xs = [.str x] ∧ x.length ≤ 640 ∧ PySem.intText? x = some i ∧ Q (.int i) H) := by
 intro pins s σ H xs us Q I r h
 obtain ⟨x, i, rfl, hl, hx, q⟩ := h
 obtain ⟨u, rfl, t, rfl⟩ := eg r
 exact PySem.W.KIN.call_text hx hl ⟨.int _, H, I.tok _, ⟨_, rfl⟩, q⟩
theorem oM (hg : Gl X "int") (hm : X.mg "int" = none) (ha : FA X (e :: es) ga) (he : starEach (e :: es) X.env = (false, eval e X.env) :: starEach es X.env := by kernel_rfl) (hpl : (backTo pos (starEach es X.env)).any (·.1) = false := by kernel_rfl) : FE X (.Call (.Name "int" p) (e :: es) [] pos) (fB1 rM ga) :=
 bj (gG mo hg hm (by decide +kernel) ha.h (by decide) (by decide) he hpl) fun σ H Q ρ E o => ⟨ρ, E, OutA.bind o fun ds vs H1 e1 rs o1 => by
  unfold rM at o1
  split at o1
  · rename_i x
    split at o1
    · rename_i hl
      split at o1
      · rename_i n hn
        obtain ⟨v, rfl, r⟩ := cL rs
        cases (show v = .str x from r)
        exact ⟨x, n, rfl, hl, hn, o1 _ H1 (.refl H1) rfl⟩
      · exact o1.elim
    · exact o1.elim
  · exact o1.elim⟩
end
section
variable {X : Cx}
end
section
variable {X : Cx}
end
end FD
namespace ST
open PySem PySem.SetTable
abbrev Rise (xs : Array Nat) : Prop := xs.toList.Pairwise (· < ·)
theorem Rise.lt {xs : Array Nat} (R : Rise xs) {i k : Nat} (hi : i < xs.size) (hk : k < xs.size) (h : i < k) : xs[i] < xs[k] := by
 have := List.pairwise_iff_getElem.mp R i k (by simpa using hi) (by simpa using hk) h
 simpa using this
theorem Rise.le {xs : Array Nat} (R : Rise xs) {i k : Nat} (hi : i < xs.size) (hk : k < xs.size) (h : i ≤ k) : xs[i] ≤ xs[k] := by
 rcases Nat.lt_or_ge i k with h' | h'
 · exact Nat.le_of_lt (R.lt hi hk h')
 · have : i = k := by omega
   subst this
   exact Nat.le_refl _
def tm (m : Nat) : SetTable := { mask := m, place := #[], dummies := #[], finger := 0, led := true, moves := 0, plain := true }
def pos (m : Nat) (h : Int) (n : Nat) : Nat := (advN (tm m) n ((tm m).probeStart h)).j
def Pth (m : Nat) (l : List Nat) (h : Int) (j : Nat) : Prop := ∃ N, N < 10 * turns m ∧ pos m h N = j ∧ ∀ x, x < N → pos m h x ∈ l
theorem Pth.mono {m : Nat} {l l' : List Nat} {h : Int} {j : Nat} (p : Pth m l h j) (hs : ∀ x ∈ l, x ∈ l') : Pth m l' h j := by
 obtain ⟨N, h1, h2, h3⟩ := p
 exact ⟨N, h1, h2, fun x hx => hs _ (h3 x hx)⟩
def asc (t : SetTable) (es : Array (Int × Value)) : List (Nat × (Int × Value)) := t.place.toList.zip es.toList
def Pa (t : SetTable) (es : Array (Int × Value)) : Prop := ∀ je ∈ asc t es, Pth t.mask t.place.toList je.2.1 je.1
section
variable {prog : Program} {w : World} {A : Around} {E : Value → Shared → Prop} {s : Shared}
def SetD (prog : Program) (w : World) (h : Heap) (S : Addr) (ks : List (List Str)) (n : Nat) : Prop :=
 ∃ o es ep t, h.get? S = some o ∧ o.ExactSet ∧ o.data = .set es ep t ∧ es.size = n ∧ Tb t n ∧ ((t.mask = 7 ∧ n ≤ 4) ∨ (t.mask = 31 ∧ n ≤ 18) ∨ (t.mask = 127 ∧ n ≤ 20)) ∧ Ent prog w h ks es.toList ∧ Rise t.place ∧ Pa t es ∧ ∀ k ∈ ks, ∃ a, (hsh prog w k, Value.ref a) ∈ es.toList ∧ TK prog w h k a
end
end ST
namespace ST
open PySem PySem.SetTable PyProof.Rows
section
variable {prog : Program} {w : World} {A : Around} {R : Result → Shared → Prop} {I : Addr} {fp wr : List Addr} {G : Array GenState → Array GenState → Prop} {n : Nat} {P : Nat → Value → Prop} {St : Nat → Shared → Prop}
theorem SetD.moved {h h' : Heap} {S : Addr} {ks : List (List Str)} {n : Nat} (x : SetD prog w h S ks n) (hS : ∀ o, h.get? S = some o → h'.get? S = some o) (hm : ∀ k a, TK prog w h k a → TK prog w h' k a) : SetD prog w h' S ks n := by
 obtain ⟨o, es, ep, t, ho, hex, hd, hsz, T, hmk, hE, R, hP, hA⟩ := x
 exact ⟨o, es, ep, t, hS _ ho, hex, hd, hsz, T, hmk, fun e he => let ⟨k, a, h1, h2, h3⟩ := hE e he; ⟨k, a, h1, h2, hm k a h3⟩, R, hP, fun k hk => let ⟨a, q1, q2⟩ := hA k hk; ⟨a, q1, hm k a q2⟩⟩
end
section
variable {prog : Program} {w : World} {A : Around} {E : Value → Shared → Prop} {s : Shared}
end
end ST
namespace FD
open PySem PySem.Spec PyProof.Rows L2
section
variable {X : Cx} {p p2 pos pos2 : Pos} {e : Expr} {ga : FnA}
end
section
variable {prog : Program} {w : World} {A : Around} {E : Value → Shared → Prop} {s : Shared}
end
section
variable {prog : Program} {w : World} {A : Around} {E : Value → Shared → Prop} {s : Shared}
end
structure ZMt (z TI TO i1 i2 a b : Addr) (i : Nat) (h : Heap) : Prop where
 z : IsZip h z TI TO .none
 ti : IsPair h TI (.ref i1) (.ref i2)
 to : ∃ p q, IsPair h TO p q
 j1 : h.IsTupleIter i1 a i
 j2 : h.IsListIter i2 b i
def tC (X : Cx) (i : Nat) (fc : FnE) : TS := fun D σ H => ∃ ρ, Envs X.K H σ ρ ∧ match fc ρ with
 | none => False
 | some (.exc c) => XW X c H
 | some (.ok d) => ∃ ys, d = .lst ys ∧ ∀ H5 p vs, Same H H5 → H5 p = none → Reps X.K H5 ys vs → D.nx (σ.set i (some (.ref p))) (upd H5 p (.lst vs))
theorem rN {X : Cx} {tg elt iter : Expr} {ifs : List Expr} {scope : Scope} {pos : Pos} {src : FnA} {tst : Option FnB} {fe : FnE} {b : Dv → Ev → Option Ev} {y : Str} {py spos : Pos} (i : Nat) (hnd : X.N.Nodup) (hiy : X.N[i]? = some y) (hxy : Loc X.env.scope y) (hfy : X.fn y = true ∨ X.env.scope.names.lookup y = some .local)
 (osc : Scope) (N ns : List Str) (js : List Nat) (cs : List (Str × Nat)) (hosc : X.env.scope = osc) (hN : X.N = N) (ok : eo osc scope cs N) (hcl : closureFor scope X.env = pure (cz scope.names X.env [])) (hc : X.calm = true)
 (hback : ∀ ρ d ρ', b d (br ns.length cs ρ) = some ρ' → fgt js ρ' = br ns.length cs ρ)
 (hi : FIG X tg iter src) (htg : ∀ C s H fp, FG (aD X (ns ++ cs.map (·.1)) scope C s H fp) tg b) (helt : ∀ C s H fp, FE (aD X (ns ++ cs.map (·.1)) scope C s H fp) elt fe) (hifs : ∀ C s H fp, ju (aD X (ns ++ cs.map (·.1)) scope C s H fp) ifs tst)
 (hsw : swapsWith (.ListComp elt [⟨tg, iter, ifs, 0⟩] scope pos) (some (.Name y py)) spos.line X.env = pure true := by kernel_rfl)
 (hs : ∀ x, foldedSetIterable iter X.env x = pure x := by intro _; kernel_rfl) : PS X (.Assign [.Name y py] (.ListComp elt [⟨tg, iter, ifs, 0⟩] scope pos) spos) (tC X i (aP ns.length cs src b tst fe)) := by
 subst hosc hN
 intro pins s σ H D0 I h
 obtain ⟨ρ, E, o⟩ := h
 match ho : aP ns.length cs src b tst fe ρ with
 | none => rw [ho] at o; exact o.elim
 | some r =>
  rw [ho] at o
  have key : OutG X H (src ρ) fun J H' => ∃ ds ys, Same H H' ∧ WkG X.K J ds H' ∧ ds.length ≤ 100000 ∧ ys.length ≤ 100000 ∧ dO b tst fe (br ns.length cs ρ) ds = some ys ∧ (∀ H5 p vs, Same H' H5 → H5 p = none → Reps X.K H5 ys vs → D0.nx (σ.set i (some (.ref p))) (upd H5 p (.lst vs))) := by
   rcases uZ ho with ⟨c, e1, e2⟩ | ⟨ds, ys, e1, e2, l1, l2, e3⟩
   · subst e2; rw [e1]; exact o
   · subst e3; rw [e1]; obtain ⟨ys', ey, o⟩ := o; cases ey; exact fun J H' e wk => ⟨ds, ys, e, wk, l1, l2, e2, fun H5 p vs e3 hp r => o H5 p vs (e.trans e3) hp r⟩
  rw [exec_Assign_Name_used _ _ _ _ hsw]
  refine wpAny_bind (wpAny_standAt (wpAny_bind ?_))
  show wpAny _ X.A (do let _ ← comprehension (.ListComp elt [⟨tg, iter, ifs, 0⟩] scope pos) scope X.env _ (newList []) false (eval iter X.env) (some (assign (.Name y py) X.env))) _ _ s
  refine wpAny_bind (wpAny_mono (wpAny_comprehension_free (use := some (assign (.Name y py) X.env)) (Q := fun _ s' => SP X pins D0 .next s') rfl hs hcl ok.kind ok.names
   (thn (hi.h pins s σ H _ I ⟨ρ, E, key⟩) fun v s1 h1 => thn h1 fun itv s2 h2 => ?_)) (fun _ s' hq => wpAny_pure (wpAny_pure hq)) fun _ _ e => e)
  obtain ⟨it, fp, tn, J, H2, e, I2, T, st2, f2, ds, ys, e12, wk, hdl, hyl, hm, hQ⟩ := h2
  subst e
  refine gT cs ok hc htg helt hifs hback (E.mono e12) I2 T st2 f2 wk hdl hyl hm (RR := fun acc C => compPost (model X.prog X.w) X.A X.xe (some (assign (.Name y py) X.env)) (fun _ s' => SP X pins D0 .next s') acc C) fun D C s6 H5 vs m6 I6 D5 e5 r5 n6 C6 CD hC => ?_
  have Cn : (upd H5 D (.lst vs)) C = none := by rw [ak CD]; exact C6
  have FC := I2.fpOk hC Cn
  obtain ⟨oC, es, ep, hoC, hdC, rC⟩ := id n6
  have I6p := I6.pinned (fp := [C]) (fun b hb => by
   have e : b = C := by simpa using hb
   subst e; exact FC) (fun b hb => by
   have e : b = C := by simpa using hb
   subst e
   exact ⟨oC, hoC, fun v z => by rw [hdC] at z; cases z⟩)
  refine thn (bW hnd hiy hxy hfy _ s6 σ _ (.ref D) (.ref D) (fun σ' H' => σ' = σ.set i (some (.ref D)) ∧ H' = upd H5 D (.lst vs)) I6p rfl ⟨rfl, rfl⟩) fun _ s8 ⟨σ8, H8, I8, e1, e2⟩ => ?_
  subst e1 e2
  have hC8 := (I8.pin (C, oC) (List.mem_append_right _ (List.mem_append_right _ (aA (by simp) hoC)))).1
  refine ⟨m6, ⟨oC, es, ep, hC8, hdC, rC⟩, fun h9 sb9 => ?_⟩
  have I8' : Inv X pins (σ.set i (some (.ref D))) (upd H5 D (.lst vs)) s8 := I8.unpinned
  obtain ⟨q0, q1, q2, q3, q4, q5⟩ := FC
  have I9 : Inv X pins (σ.set i (some (.ref D))) (upd H5 D (.lst vs)) { s8 with heap := h9 } := I8'.turned (t' := s8.toks) (fun b o hb e => sb9.extBut b o hb e) q0 q1 q3 q4 q5
  exact ⟨_, _, I9, hQ H5 D vs e5 D5 r5⟩
section
variable {X : Cx} {i : Nat} {st : Stmt} {sts : List Stmt} {f : eT} {fc : FnE}
theorem eC {n : Nat} {cs : List (Str × Nat)} {src : FnA} {b : Dv → Ev → Option Ev} {tst : Option FnB} {fe : FnE} (ρ : Ev) (d : Dv) (h : aP n cs src b tst fe ρ = some (.ok d)) : ∃ ys, d = .lst ys := by
 rcases uZ h with ⟨c, e1, e2⟩ | ⟨ds, ys, e1, e2, l1, l2, e3⟩
 · cases e2
 · cases e3; exact ⟨ys, rfl⟩
end
structure Ad {α : Type} (le : α → α → Bool) : Prop where
 t : ∀ a b, le a b = false → le b a = true
 tr : ∀ a b c, le a b = true → le b c = true → le a c = true
 an : ∀ a b, le a b = true → le b a = true → a = b
section
variable {X : Cx} {pins : List (Addr × Obj)} {σ : L2.St} {H : Hp} {s : Shared}
theorem cT : ∀ {its : List Value} {ns : List Int}, IntsAre its ns → Vals (ns.map V.int) its
 | _, _, .nil => .nil
 | _, _, .cons n t h => .cons ⟨t, rfl⟩ (cT h)
end
section
variable {X : Cx} {p pos : Pos} {e : Expr} {es : List Expr} {ga : FnA}
end
section
variable {X : Cx} {p pos : Pos} {e : Expr} {es : List Expr} {ga : FnA}
end
section
variable {X : Cx} {p pos : Pos} {e : Expr} {es : List Expr} {ga : FnA}
end
section
variable {prog : Program} {w : World} {A : Around} {E : Value → Shared → Prop} {s : Shared}
end
section
variable {prog : Program} {w : World} {A : Around} {E : Value → Shared → Prop} {s : Shared}
end
theorem qg {tst : Option FnB} {elt : FnE} {cap : Ev} : ∀ ds : List Dv, lm tst elt cap ds = dO (gN 0) tst elt cap ds
 | [] => rfl
 | d :: ds => by
  unfold lm dO
  rw [qg ds]
  rfl
theorem mq (cs : List (Str × Nat)) (src : FnA) (tst : Option FnB) (fe : FnE) : b8 cs src tst fe = aP 1 cs src (gN 0) tst fe := by
 funext ρ
 show bnd (src ρ) _ = bnd (src ρ) _
 congr 1
 funext ds
 rw [qg]
 rfl
theorem oN {X : Cx} {tg elt iter : Expr} {ifs : List Expr} {scope : Scope} {pos : Pos} {src : FnA} {tst : Option FnB} {fe : FnE} (osc : Scope) (N ns : List Str) (js : List Nat) (cs : List (Str × Nat)) (hosc : X.env.scope = osc) (hN : X.N = N) (ok : eo osc scope cs N) (hcl : closureFor scope X.env = pure (cz scope.names X.env [])) (hc : X.calm = true)
 (hback : ∀ ρ d ρ', gN 0 d (br ns.length cs ρ) = some ρ' → fgt js ρ' = br ns.length cs ρ)
 (hi : FIG X tg iter src) (htg : ∀ C s H fp, FG (aD X (ns ++ cs.map (·.1)) scope C s H fp) tg (gN 0)) (helt : ∀ C s H fp, FE (aD X (ns ++ cs.map (·.1)) scope C s H fp) elt fe) (hifs : ∀ C s H fp, ju (aD X (ns ++ cs.map (·.1)) scope C s H fp) ifs tst) (h1 : ns.length = 1 := by rfl)
 (hs : ∀ x, foldedSetIterable iter X.env x = pure x := by intro _; kernel_rfl) : FE X (.ListComp elt [⟨tg, iter, ifs, 0⟩] scope pos) (b8 cs src tst fe) := by
 have h := oi (pos := pos) osc N ns js cs hosc hN ok hcl hc hback hi htg helt hifs hs
 rw [h1] at h
 rw [mq]
 exact h
theorem iM {X : Cx} {st : Stmt} {i : Nat} {fc : FnE} (h : PS X st (tC X i fc)) (hl : ∀ ρ d, fc ρ = some (.ok d) → ∃ ys, d = .lst ys) : FS X st (bZ i fc) := ⟨fun pins s σ H D I ⟨ρ, E, o⟩ => by
 refine h pins s σ H D I ⟨ρ, E, ?_⟩
 unfold bZ at o
 match hf : fc ρ with
 | none => rw [hf] at o; exact o.elim
 | some (.exc c) => rw [hf] at o; exact o
 | some (.ok d) =>
  rw [hf] at o
  obtain ⟨ys, rfl⟩ := hl ρ d hf
  exact ⟨ys, rfl, fun H5 p vs e5 hp rs => o _ _ (e5.trans (ao hp _)) ((E.mono (e5.trans (ao hp _))).set ⟨p, vs, rfl, am, Reps.mono (ao hp _) _ _ rs⟩)⟩⟩
end FD
namespace ST
open PySem PySem.SetTable PyProof.Rows
def SetS (prog : Program) (w : World) (h : Heap) (S : Addr) (ks : List Str) : Prop :=
 ∃ o es ep t, h.get? S = some o ∧ o.ExactSet ∧ o.data = .set es ep t ∧ t.fits es.size = true ∧ ks.length ≤ 60 ∧ t.led = (!byT w) ∧ (es.size ≠ 0 → t.plain = false) ∧ ElemsOf (PySem.strKind prog w) es.toList ∧ (∀ e ∈ es.toList, ∃ x t, e.2 = .str x t) ∧ (es.toList.map fun e => strOf e.2).Perm ks
section
variable {prog : Program} {w : World} {A : Around} {E : Value → Shared → Prop} {s : Shared}
end
section
variable {prog : Program} {w : World} {A : Around} {R : Result → Shared → Prop} {I : Addr} {fp wr : List Addr} {G : Array GenState → Array GenState → Prop} {n : Nat} {P : Nat → Value → Prop} {St : Nat → Shared → Prop}
theorem SetS.moved {h h' : Heap} {S : Addr} {ks : List Str} (x : SetS prog w h S ks) (hS : ∀ o, h.get? S = some o → h'.get? S = some o) : SetS prog w h' S ks := by
 obtain ⟨o, es, ep, t, ho, r⟩ := x
 exact ⟨o, es, ep, t, hS _ ho, r⟩
end
section
variable {prog : Program} {w : World} {A : Around} {E : Value → Shared → Prop} {s : Shared}
end
section
variable {prog : Program} {w : World} {A : Around} {E : Value → Shared → Prop}
variable {s : Shared}
structure Rd (w : World) (h : Heap) (S : Addr) (es : Array (Int × Value)) (ep : Nat) (t : SetTable) : Prop where
 o : ∃ o, h.get? S = some o ∧ o.ExactSet ∧ o.data = .set es ep t
 f : t.fits es.size = true
 l : t.led = (!byT w)
 p : es.size ≠ 0 → t.plain = false
theorem Rd.moved {h h' : Heap} {S : Addr} {es : Array (Int × Value)} {ep : Nat} {t : SetTable} (r : Rd w h S es ep t) (k : ∀ o, h.get? S = some o → h'.get? S = some o) : Rd w h' S es ep t := by
 obtain ⟨⟨o, ho, hr⟩, h1, h2, h3⟩ := r
 exact ⟨⟨o, k _ ho, hr⟩, h1, h2, h3⟩
end
section
variable {prog : Program} {w : World} {A : Around} {E : Value → Shared → Prop} {s : Shared}
structure Wk (prog : Program) (w : World) (S I : Addr) (h : Heap) (h' : Heap) (es : Array (Int × Value)) (vs : List Value) (fp : List Addr) (St : Nat → Heap → Prop) : Prop where
 W : ∀ A : Around, A.handled = none → Walks prog w A I fp [I] vs.length (fun i v => vs[i]? = some v) St
 st : St 0 h'
 pm : vs.Perm (es.toList.map (·.2))
 up : ∀ b o, h.get? b = some o → h'.get? b = some o
 nw : h.objs.size ≤ I
 fp : ∀ b ∈ fp, (b = S ∨ h.objs.size ≤ b) ∧ b < h'.objs.size
end
section
variable {prog : Program} {w : World} {A : Around} {E : Value → Shared → Prop} {s : Shared}
theorem SetS.rd {h : Heap} {S : Addr} {ks : List Str} (x : SetS prog w h S ks) : ∃ es ep t, Rd w h S es ep t ∧ es.size ≤ 60 ∧ (∀ e ∈ es.toList, ∃ x t, e.2 = .str x t) ∧ (es.toList.map fun e => strOf e.2).Perm ks := by
 obtain ⟨o, es, ep, t, ho, hex, hd, hf, hk, hl, hp, hel, hs, hm⟩ := x
 refine ⟨es, ep, t, ⟨⟨o, ho, hex, hd⟩, hf, hl, hp⟩, ?_, hs, hm⟩
 have := hm.length_eq
 simp at this
 omega
end
end ST
namespace FD
open PySem PySem.Spec PyProof.Rows L2
section
variable {X : Cx} {p p2 pos pos2 : Pos} {e : Expr} {ga : FnA}
end
end FD
namespace TS
open PySem PyProof.Rows
section logic
variable {M : Model} {A : Around} {E : Value → Shared → Prop} {J : Shared → Prop} {σ α β : Type}
end logic
structure Od (blt : Nat → Nat → Bool) : Prop where
 ir : ∀ a, blt a a = false
 tr : ∀ a b c, blt a b = true → blt b c = true → blt a c = true
 nt : ∀ a b c, blt a c = true → blt a b = true ∨ blt b c = true
def Lex (blt : Nat → Nat → Bool) (a b : Nat) : Prop := blt a b = true ∨ (blt b a = false ∧ a < b)
section order
variable {blt : Nat → Nat → Bool}
theorem Od.le (O : Od blt) {a b c : Nat} (h1 : blt b a = false) (h2 : blt c b = false) : blt c a = false := by
 cases h : blt c a with
 | false => rfl
 | true =>
  rcases O.nt _ b _ h with q | q
  · rw [q] at h2; cases h2
  · rw [q] at h1; cases h1
theorem Od.lt_le (O : Od blt) {a b c : Nat} (h1 : blt a b = true) (h2 : blt c b = false) : blt a c = true := by
 rcases O.nt _ c _ h1 with q | q
 · exact q
 · rw [q] at h2; cases h2
theorem Od.le_lt (O : Od blt) {a b c : Nat} (h1 : blt b a = false) (h2 : blt b c = true) : blt a c = true := by
 rcases O.nt _ a _ h2 with q | q
 · rw [q] at h1; cases h1
 · exact q
theorem Od.as (O : Od blt) {a b : Nat} (h : blt a b = true) : blt b a = false := by
 cases h' : blt b a with
 | false => rfl
 | true => have := O.tr _ _ _ h h'; rw [O.ir] at this; cases this
theorem Lex.tr (O : Od blt) {a b c : Nat} (h1 : Lex blt a b) (h2 : Lex blt b c) : Lex blt a c := by
 rcases h1 with h1 | ⟨h1, i1⟩
 · rcases h2 with h2 | ⟨h2, i2⟩
   · exact .inl (O.tr _ _ _ h1 h2)
   · exact .inl (O.lt_le h1 h2)
 · rcases h2 with h2 | ⟨h2, i2⟩
   · exact .inl (O.le_lt h1 h2)
   · exact .inr ⟨O.le h1 h2, by omega⟩
theorem Lex.of_le {a b : Nat} (h : blt b a = false) (i : a < b) : Lex blt a b := .inr ⟨h, i⟩
end order
structure SB (a₀ : Array Keyed) (kd : SortKind) (p : Nat → Nat) (st : SortSt) : Prop where
 sz : (arrOf st).size = a₀.size
 at' : ∀ k, k < a₀.size → (arrOf st)[k]? = a₀[p k]?
 lt : ∀ k, k < a₀.size → p k < a₀.size
 inj : ∀ a b, a < a₀.size → b < a₀.size → p a = p b → a = b
 kind : kindOf st = kd
 failed : failedOf st = none
 pend : pendingOf st = #[]
def mir (p : Nat → Nat) (i j k : Nat) : Nat := if i ≤ k ∧ k < j then p (i + j - 1 - k) else p k
section state
variable {a₀ : Array Keyed} {kd : SortKind} {p : Nat → Nat} {st : SortSt}
end state
section
variable {M : Model} {A : Around} {E : Value → Shared → Prop} {J : Shared → Prop} {a₀ : Array Keyed} {kd : SortKind} {blt : Nat → Nat → Bool} {p : Nat → Nat} {st : SortSt}
structure Up (blt : Nat → Nat → Bool) (p : Nat → Nat) (n N : Nat) : Prop where
 so : ∀ a b, a < b → b < n → Lex blt (p a) (p b)
 lo : ∀ a, a < n → p a < n
 re : ∀ a, n ≤ a → a < N → p a = a
theorem Up.next (O : Od blt) {n N : Nat} (U : Up blt p n N) (h1 : 1 ≤ n) (hn : n < N) (h : blt (p n) (p (n - 1)) = false) : Up blt p (n + 1) N where
 so := fun a b hab hb => by
  by_cases hbn : b < n
  · exact U.so a b hab hbn
  · have hb' : b = n := by omega
    subst hb'
    have last : Lex blt (p (b - 1)) (p b) := .of_le h (by rw [U.re b (Nat.le_refl _) hn]; exact U.lo _ (by omega))
    by_cases ha : a = b - 1
    · subst ha; exact last
    · exact (U.so a (b - 1) (by omega) (by omega)).tr O last
 lo := fun a ha => by
  by_cases han : a < n
  · have := U.lo a han; omega
  · have : a = n := by omega
    subst this
    rw [U.re a (Nat.le_refl _) hn]
    omega
 re := fun a ha hN => U.re a (by omega) hN
structure Dn (blt : Nat → Nat → Bool) (p : Nat → Nat) (n N : Nat) : Prop where
 so : ∀ a b, a < b → b < n → Lex blt (p b) (p a)
 lo : ∀ a, a < n → p a < n
 re : ∀ a, n ≤ a → a < N → p a = a
structure Dq (blt : Nat → Nat → Bool) (p : Nat → Nat) (c n N : Nat) : Prop where
 cn : c < n
 d1 : ∀ a b, a < b → b < c → Lex blt (p b) (p a)
 d2 : ∀ a b, a < c → c ≤ b → b < n → blt (p b) (p a) = true
 d3 : ∀ a b, c ≤ a → a < b → b < n → blt (p a) (p b) = false ∧ blt (p b) (p a) = false ∧ p a < p b
 lo : ∀ a, a < n → p a < n
 re : ∀ a, n ≤ a → a < N → p a = a
theorem Dq.turn {c n N : Nat} (D : Dq blt p c n N) : Dn blt (mir p c n) n N where
 so := fun a b hab hb => by
  unfold mir
  by_cases hbc : c ≤ b
  · rw [if_pos ⟨hbc, hb⟩]
    by_cases hac : c ≤ a
    · rw [if_pos ⟨hac, by omega⟩]
      have := D.d3 (c + n - 1 - b) (c + n - 1 - a) (by omega) (by omega) (by omega)
      exact .inr ⟨this.2.1, this.2.2⟩
    · rw [if_neg (by omega)]
      exact .inl (D.d2 a _ (by omega) (by omega) (by omega))
  · rw [if_neg (by omega), if_neg (by omega)]
    exact D.d1 a b hab (by omega)
 lo := fun a ha => by
  unfold mir
  split
  · exact D.lo _ (by omega)
  · exact D.lo _ ha
 re := fun a ha hN => by
  unfold mir
  rw [if_neg (by omega)]
  exact D.re a ha hN
theorem Dq.one {n N : Nat} (D : Dq blt p (n - 1) n N) : Dn blt p n N where
 so := fun a b hab hb => by
  by_cases hbc : b < n - 1
  · exact D.d1 a b hab hbc
  · exact .inl (D.d2 a b (by omega) (by omega) hb)
 lo := D.lo
 re := D.re
theorem Dn.turn {n N : Nat} (D : Dn blt p n N) : Up blt (mir p 0 n) n N where
 so := fun a b hab hb => by
  unfold mir
  rw [if_pos ⟨Nat.zero_le _, by omega⟩, if_pos ⟨Nat.zero_le _, hb⟩]
  exact D.so _ _ (by omega) (by omega)
 lo := fun a ha => by
  unfold mir
  rw [if_pos ⟨Nat.zero_le _, ha⟩]
  exact D.lo _ (by omega)
 re := fun a ha hN => by
  unfold mir
  rw [if_neg (by omega)]
  exact D.re a ha hN
theorem Dn.next (O : Od blt) {n N : Nat} (D : Dn blt p n N) (h1 : 1 ≤ n) (hn : n < N) (h : blt (p n) (p (n - 1)) = true) : Dq blt p n (n + 1) N where
 cn := by omega
 d1 := D.so
 d2 := fun a b ha hb hb' => by
  have : b = n := by omega
  subst this
  by_cases e : a = b - 1
  · subst e; exact h
  · rcases D.so a (b - 1) (by omega) (by omega) with q | ⟨q, _⟩
    · exact O.tr _ _ _ h q
    · exact O.lt_le h q
 d3 := fun a b ha hab hb => by omega
 lo := fun a ha => by
  by_cases han : a < n
  · have := D.lo a han; omega
  · have : a = n := by omega
    subst this
    rw [D.re a (Nat.le_refl _) hn]
    omega
 re := fun a ha hN => D.re a (by omega) hN
theorem Dq.next (O : Od blt) {c n N : Nat} (D : Dq blt p c n N) (hn : n < N) (h1 : blt (p n) (p (n - 1)) = false) (h2 : blt (p (n - 1)) (p n) = false) : Dq blt p c (n + 1) N where
 cn := by have := D.cn; omega
 d1 := D.d1
 d2 := fun a b ha hb hb' => by
  by_cases hbn : b < n
  · exact D.d2 a b ha hb hbn
  · have : b = n := by omega
    subst this
    exact O.le_lt h2 (D.d2 a (b - 1) ha (by have := D.cn; omega) (by omega))
 d3 := fun a b ha hab hb => by
  by_cases hbn : b < n
  · exact D.d3 a b ha hab hbn
  · have : b = n := by omega
    subst this
    have hlt : p a < p b := by
     have := D.lo a (by omega)
     rw [D.re b (Nat.le_refl _) hn]
     exact this
    by_cases e : a = b - 1
    · subst e; exact ⟨h2, h1, hlt⟩
    · obtain ⟨q1, q2, _⟩ := D.d3 a (b - 1) ha (by omega) (by omega)
      exact ⟨O.le h2 q1, O.le q2 h1, hlt⟩
 lo := fun a ha => by
  by_cases han : a < n
  · have := D.lo a han; omega
  · have : a = n := by omega
    subst this
    rw [D.re a (Nat.le_refl _) hn]
    omega
 re := fun a ha hN => D.re a (by omega) hN
end
section
variable {M : Model} {A : Around} {E : Value → Shared → Prop} {J : Shared → Prop} {a₀ : Array Keyed} {kd : SortKind} {blt : Nat → Nat → Bool} {p : Nat → Nat} {st : SortSt}
structure zZ (a₀ : Array Keyed) (blt : Nat → Nat → Bool) (p : Nat → Nat) (xs : Array Keyed) : Prop where
 sz : xs.size = a₀.size
 at' : ∀ k, k < a₀.size → xs[k]? = a₀[p k]?
 lt : ∀ k, k < a₀.size → p k < a₀.size
 inj : ∀ a b, a < a₀.size → b < a₀.size → p a = p b → a = b
 so : ∀ a b, a < b → b < a₀.size → Lex blt (p a) (p b)
def Dne (a₀ : Array Keyed) (blt : Nat → Nat → Bool) (st : SortSt) : Prop := ∃ p, zZ a₀ blt p (arrOf st) ∧ failedOf st = none ∧ pendingOf st = #[(0, a₀.size, 0)]
theorem SB.done (B : SB a₀ kd p st) (U : Up blt p a₀.size a₀.size) : Dne a₀ blt (setPending st ((pendingOf st).push (0, a₀.size, 0))) :=
 ⟨p, ⟨B.sz, B.at', B.lt, B.inj, U.so⟩, B.failed, by show (pendingOf st).push _ = _; rw [B.pend]; rfl⟩
end
section
variable {prog : Program} {w : World} {A : Around} {E : Value → Shared → Prop} {s : Shared} {blt : Nat → Nat → Bool} {Kd : SortKind → Prop}
end
end TS
namespace TS
open PySem PySem.Spec PyProof.Rows L2
def vQ (h : Heap) (A : Around) (z : Bool) (p q : Value) (e l : Bool) : Prop := ∀ (prog : Program) (w : World) (E : Value → Shared → Prop) (s : Shared), s.heap = h →
 (∀ Q : Bool → Shared → Prop, Q e s → wpAny (model prog w) A (eqBool p q) Q E s) ∧ (∀ (b : Bool) (Q : Bool → Shared → Prop), (b = true → z = true) → Q l s → wpAny (model prog w) A (oneLt' b p q) Q E s)
inductive rO (h : Heap) (A : Around) : Bool → List (Value × Value) → List (Bool × Bool) → Prop
 | nil {z : Bool} : rO h A z [] []
 | cons {z : Bool} {p q : Value} {e l : Bool} {ps : List (Value × Value)} {rs : List (Bool × Bool)} : vQ h A z p q e l → rO h A false ps rs → rO h A z ((p, q) :: ps) ((e, l) :: rs)
section
variable {prog : Program} {w : World} {A : Around} {E : Value → Shared → Prop} {s : Shared}
inductive mr (h : Heap) : List Value → List Value → Prop
 | nil : mr h [] []
 | cons {a : Addr} {xs : Array Value} {f : Value} {vs fs : List Value} : h.IsTuple a xs → xs[0]? = some f → mr h vs fs → mr h (.ref a :: vs) (f :: fs)
end
def vR (p q : Value) (e l : Bool) : Prop := ∀ (prog : Program) (w : World) (A : Around) (E : Value → Shared → Prop) (s : Shared),
 (∀ Q : Bool → Shared → Prop, Q e s → wpAny (model prog w) A (eqBool p q) Q E s) ∧ (∀ Q : Value → Shared → Prop, Q (.bool l) s → wpAny (model prog w) A (richCompare .Lt p q) Q E s)
inductive ms : List (Value × Value) → List (Bool × Bool) → Prop
 | nil : ms [] []
 | cons {p q : Value} {e l : Bool} {ps : List (Value × Value)} {rs : List (Bool × Bool)} : vR p q e l → ms ps rs → ms ((p, q) :: ps) ((e, l) :: rs)
section
open PySem.SeqAt
open PySem.AutoSeq1 (wpAny_loadPart')
open PySem.MeetsSeq PySem.MeetsSeq2 PySem.MeetsSeq3
end
end TS
namespace TS
open PySem PyProof.Rows FD
theorem Lex.as {blt : Nat → Nat → Bool} (O : Od blt) {a b : Nat} (h : Lex blt a b) (h' : Lex blt b a) : False := by
 have := h.tr O h'
 rcases this with q | q
 · rw [O.ir] at q; cases q
 · omega
section
variable {prog : Program} {w : World} {A : Around} {E : Value → Shared → Prop} {s : Shared}
end
section
variable {prog : Program} {w : World} {A : Around} {E : Value → Shared → Prop} {s : Shared} {blt : Nat → Nat → Bool}
end
end TS
namespace FD
open PySem PySem.Spec PyProof.Rows L2 TS
section
variable {X : Cx} {pins : List (Addr × Obj)} {σ : L2.St} {H : Hp} {s : Shared}
end
section
variable {X : Cx} {pins : List (Addr × Obj)} {σ : L2.St} {H : Hp} {s : Shared}
theorem reps_at {K : PySem.W.Frag} : ∀ {ds : List Dv} {ws : List V}, Reps K H ds ws → ∀ (i : Nat) (d : Dv) (v : V), ds[i]? = some d → ws[i]? = some v → Rep K H d v
 | [], _, _, i, d, v, h, _ => by simp at h
 | d0 :: ds, ws, r, i, d, v, h, h' => by
  obtain ⟨u, ws1, rfl, r1, r2⟩ : ∃ v ws1, ws = v :: ws1 ∧ Rep K H d0 v ∧ Reps K H ds ws1 := r
  cases i with
  | zero => simp at h h'; subst h; subst h'; exact r1
  | succ i => exact reps_at r2 i d v (by simpa using h) (by simpa using h')
end
section
variable {X : Cx} {p pos : Pos} {e : Expr} {es : List Expr} {ga : FnA}
end
end FD
namespace FD
open PySem PySem.Spec PyProof.Rows L2 PySem.W
section
variable {X : Cx} {hx : Expr} {body : List Stmt} {f : FnS} {g : FnE} {J n : Str} {CJ : Addr} {np rp2 hpos pos : Pos}
end
end FD
namespace FD
open PySem PySem.Spec PyProof.Rows L2 TS
section
variable {X : Cx} {pins : List (Addr × Obj)} {σ : L2.St} {H : Hp} {s : Shared} {k : Nat} {f : Addr} {fd : FuncData} {ps : List Str} {F : List Dv → Option (Rs Dv)} {A' : Around} {E : Value → Shared → Prop}
end
end FD
namespace TS
open PySem PyProof.Rows FD
section
variable {prog : Program} {w : World} {A : Around} {E : Value → Shared → Prop} {s : Shared} {blt : Nat → Nat → Bool}
end
end TS
namespace FD
open PySem PySem.Spec PyProof.Rows L2 TS
section
variable {X : Cx} {pins : List (Addr × Obj)} {σ : L2.St} {H : Hp} {s : Shared} {k : Nat} {f : Addr} {fd : FuncData} {ps : List Str} {F : List Dv → Option (Rs Dv)} {A' : Around} {E : Value → Shared → Prop}
end
section
variable {X : Cx} {pins : List (Addr × Obj)} {σ : L2.St} {H : Hp} {s : Shared} {k : Nat} {f : Addr} {fd : FuncData} {ps : List Str} {F : List Dv → Option (Rs Dv)} {A' : Around} {E : Value → Shared → Prop}
end
section
variable {X : Cx} {pins : List (Addr × Obj)} {σ : L2.St} {H : Hp} {s : Shared} {k : Nat} {f : Addr} {fd : FuncData} {ps : List Str} {F : List Dv → Option (Rs Dv)} {E : Value → Shared → Prop}
end
section
variable {X : Cx} {k' n : Nat} {ps : List Str} {x : Str} {p p2 kp pos : Pos} {e : Expr} {F : List Dv → Option (Rs Dv)} {g : FnA}
end
end FD
namespace FD
open PySem PySem.Spec PyProof.Rows L2
section
variable {X : Cx} {p pos : Pos} {e : Expr} {es : List Expr} {ga : FnA}
end
end FD
namespace TS
open PySem PySem.Spec PyProof.Rows L2 FD
end TS
namespace FD
open PySem PySem.Spec PyProof.Rows L2 TS
section
variable {X : Cx}
end
end FD
namespace FD
open PySem PySem.Spec PyProof.Rows L2
def ag (X : Cx) (N : List Str) (scope : Scope) (C : Addr) (s : Shared) (H : Hp) (fp : List Addr) : Cx :=
 { X with N := N, s₀ := s, H₀ := H, env := compEnvC scope (cellsFrom (C + 1) scope.names (cz scope.names X.env [])) C X.env, outer := X.stack, stack := X.stack, ex := fp, fn := fun y => scope.names.lookup y == some .cell, pn := [], xe := fun _ _ => False }
structure dq (osc scope : Scope) (cs : List (Str × Nat)) (N : List Str) : Prop where
 kind : scope.kind = .function
 one : ∀ y ∈ scope.names, y.2 = .cell → scope.names.lookup y.1 = some .cell
 names : ∀ y ∈ scope.names, y.2 = .local → scope.names.lookup y.1 = some .local
 free : ∀ y ∈ scope.names, y.2 = .free → osc.names.lookup y.1 = some .cell ∨ osc.names.lookup y.1 = some .free
 caps : ∀ c ∈ cs, N[c.2]? = some c.1 ∧ scope.names.lookup c.1 = some .free
theorem c5 : ∀ (names : List (Str × NameKind)) (lo : Nat) (acc : List (Str × Addr)), cellsFrom lo names acc = cellsFrom lo names [] ++ acc
 | [], _, _ => rfl
 | (n, k) :: r, lo, acc => by
  unfold cellsFrom
  split
  · rw [c5 r (lo + 1) ((n, lo) :: acc), c5 r (lo + 1) [(n, lo)], List.append_assoc]; rfl
  · exact c5 r lo acc
theorem mv : ∀ {names : List (Str × NameKind)} {lo : Nat} {n : Str} {c : Addr}, (n, c) ∈ cellsFrom lo names [] → (n, NameKind.cell) ∈ names
 | [], _, _, _, h => (nomatch h)
 | (m, k) :: r, lo, n, c, h => by
  unfold cellsFrom at h
  split at h
  · rename_i hk
    rw [c5] at h
    rcases List.mem_append.mp h with q | q
    · exact List.mem_cons_of_mem _ (mv q)
    · have e : n = m := by simp at q; exact q.1
      have ek : k = .cell := by simpa using hk
      subst e ek
      exact List.mem_cons_self
  · exact List.mem_cons_of_mem _ (mv h)
theorem jO : ∀ {names : List (Str × NameKind)} {lo : Nat} {n : Str}, (n, NameKind.cell) ∈ names → ((cellsFrom lo names []).lookup n).isSome = true
 | [], _, _, h => (nomatch h)
 | (m, k) :: r, lo, n, h => by
  unfold cellsFrom
  rcases List.mem_cons.mp h with e | q
  · cases e
    rw [if_pos (by decide), c5, List.lookup_append]
    cases hl : (cellsFrom (lo + 1) r []).lookup m with
    | some _ => rfl
    | none => simp
  · split
    · rw [c5, List.lookup_append]
      have := jO (lo := lo + 1) q
      cases hl : (cellsFrom (lo + 1) r []).lookup n with
      | some _ => rfl
      | none => rw [hl] at this; cases this
    · exact jO q
theorem rP {M : Model} {A : Around} {E : Value → Shared → Prop} {s : Shared} {scope : Scope} {globals : Addr} {cl : List (Str × Addr)} {qual : Str} {env : Env} {Q : Env → Shared → Prop} (hk : scope.kind = .function)
 (hQ : Q (newEnv scope s.heap.objs.size globals (cellsFrom (s.heap.objs.size + 1) scope.names cl) qual none .none (some env) builtinsNs) { s with heap := pushCells (s.heap.push { cls := .type "dict", data := .dict #[] }) scope.names }) :
 wpAny M A (newFunctionEnv scope globals cl [] qual none .none (some env)) Q E s := by
 simp only [newFunctionEnv, Option.isSome_some, if_true]
 refine wpAny_bind (wpAny_alloc ?_)
 refine wpAny_bind (wpAny_layCells _ (fun name kind cells => by cases hkc : kind == NameKind.cell <;> simp [hkc]) _ _ _ _ ?_)
 rw [show ({ s with heap := s.heap.push { cls := .type "dict", data := .dict #[] } } : Shared).heap.objs.size = s.heap.objs.size + 1 from Heap.size_push ..]
 refine wpAny_bind ?_
 rw [List.forIn_nil]
 exact wpAny_pure (wpAny_pure hQ)
theorem mw {X : Cx} {pins : List (Addr × Obj)} {σ : L2.St} {H : Hp} {s : Shared} {scope : Scope} {ns : List Str} {cs : List (Str × Nat)} {fp : List Addr} {h₁ : Heap} {C : Addr} {t' : Nat} (ok : dq X.env.scope scope cs X.N) (I : Inv X pins σ H s) (hfp : ∀ b ∈ fp, jk X pins H b) (hlt : ∀ b ∈ fp, b < s.heap.objs.size)
 (hC : s.heap.objs.size ≤ C) (hns : h₁.Ns C fun _ => none) (old : ∀ b o, s.heap.get? b = some o → h₁.get? b = some o) (hck : CellsOk h₁ (C + 1) (cellsFrom (C + 1) scope.names [])) :
 Inv (ag X (ns ++ cs.map (·.1)) scope C s H fp) [] (di ns.length cs σ) H { s with heap := h₁, toks := t' } := by
 have cl1 : ∀ n c, (cz scope.names X.env []).lookup n = some c → X.env.cells.lookup n = some c := fun n c e => by
  rcases dg _ _ e with q | ⟨q1, q2⟩
  · simp at q
  · obtain ⟨c', e'⟩ := I.ok.has n (ok.free _ q1 rfl)
    rw [e'] at q2
    rw [e', q2] <;> rfl
 have lk : ∀ n c, (ag X (ns ++ cs.map (·.1)) scope C s H fp).env.cells.lookup n = some c → (n, c) ∈ cellsFrom (C + 1) scope.names [] ∨ ((n, NameKind.cell) ∉ scope.names ∧ (cz scope.names X.env []).lookup n = some c) := fun n c e => by
  have e' : (cellsFrom (C + 1) scope.names (cz scope.names X.env [])).lookup n = some c := e
  rw [c5, List.lookup_append] at e'
  cases hl : (cellsFrom (C + 1) scope.names []).lookup n with
  | some c' => rw [hl] at e'; cases e'; exact .inl (mem_of_lookup hl)
  | none =>
   rw [hl] at e'
   refine .inr ⟨fun hm => ?_, e'⟩
   have := jO (lo := C + 1) hm
   rw [hl] at this
   cases this
 have lk2 : ∀ n c, (n, NameKind.cell) ∉ scope.names → (cz scope.names X.env []).lookup n = some c → (ag X (ns ++ cs.map (·.1)) scope C s H fp).env.cells.lookup n = some c := fun n c hm e => by
  show (cellsFrom (C + 1) scope.names (cz scope.names X.env [])).lookup n = some c
  rw [c5, List.lookup_append]
  cases hl : (cellsFrom (C + 1) scope.names []).lookup n with
  | some c' => exact absurd (mv (mem_of_lookup hl)) hm
  | none => exact e
 have big : ∀ n c, (n, c) ∈ cellsFrom (C + 1) scope.names [] → s.heap.objs.size < c := fun n c hm => Nat.lt_of_lt_of_le (Nat.lt_succ_of_le hC) (hck.empty n c hm).2
 have low : ∀ n c, (cz scope.names X.env []).lookup n = some c → c < s.heap.objs.size := fun n c e => by
  obtain ⟨v, o, ho, _⟩ := I.cell n c (cl1 n c e)
  exact Heap.lt_size ho
 have inj : ∀ y z c, (ag X (ns ++ cs.map (·.1)) scope C s H fp).env.cells.lookup y = some c → (ag X (ns ++ cs.map (·.1)) scope C s H fp).env.cells.lookup z = some c → y = z := fun y z c e1 e2 => by
  rcases lk y c e1 with p | ⟨_, p⟩ <;> rcases lk z c e2 with q | ⟨_, q⟩
  · exact name_of_addr hck.apart p q
  · exact absurd (Nat.lt_trans (big y c p) (low z c q)) (Nat.lt_irrefl _)
  · exact absurd (Nat.lt_trans (big z c q) (low y c p)) (Nat.lt_irrefl _)
  · exact I.ok.inj y z c (cl1 y c p) (cl1 z c q)
 refine ⟨⟨I.ok.mod, ok.kind, I.ok.glob, I.ok.blt, hC, inj, fun y hy => ?_, fun y c hfn e => ?_, I.ok.hd, I.ok.frames, .inl rfl, fun b hb => ⟨fun z => ?_, fun y c e => ?_⟩, I.bs, Nat.le_trans I.ok.bsz I.sz, fun b o e hb => ?_, fun b hb z => ?_, I.stack, I.stkFree⟩,
  rfl, I.bare, Un.kept old, ⟨_, hns, fun i y v h1 h2 h3 => ?_⟩, fun y c e => ?_, I.hok.fresh hC, fun y c e => ?_, fun p hp => absurd (show p ∈ ([] : List (Addr × Obj)) from hp) (by simp), I.hok.kept old, by simp [di, ag]⟩
 · have hm : (y, NameKind.cell) ∈ scope.names ∨ (y, NameKind.free) ∈ scope.names := by
    rcases hy with hy | hy
    · rcases cf hy with q | ⟨_, q⟩
      · exact .inl q
      · exact .inr q
    · rcases cf hy with q | ⟨q, _⟩
      · exact .inr q
      · cases q
   by_cases hcl : (y, NameKind.cell) ∈ scope.names
   · obtain ⟨c, hc'⟩ := Option.isSome_iff_exists.mp (jO (lo := C + 1) hcl)
     refine ⟨c, ?_⟩
     show (cellsFrom (C + 1) scope.names (cz scope.names X.env [])).lookup y = some c
     rw [c5, List.lookup_append, hc']
     rfl
   · obtain ⟨c, hc'⟩ := Option.isSome_iff_exists.mp (cW (env := X.env) scope.names [] (hm.resolve_left hcl))
     exact ⟨c, lk2 y c hcl hc'⟩
 · have hfn' : scope.names.lookup y = some .cell := by simpa [ag] using hfn
   rcases lk y c e with p | ⟨p, _⟩
   · exact Nat.le_of_lt (big y c p)
   · exact absurd (a6 hfn') p
 · have := hlt b hb
   rw [z] at this
   exact absurd (Nat.lt_of_lt_of_le this hC) (Nat.lt_irrefl _)
 · rcases lk y c e with p | ⟨_, p⟩
   · exact fun z => absurd (Nat.lt_trans (big y c p) (z ▸ hlt b hb)) (Nat.lt_irrefl _)
   · exact (hfp b hb).2.2.2.2.1 y c (cl1 y c p)
 · rcases (hfp b hb).2.2.2.1 with z | z
   · exact I.ok.noex b o e z
   · exact absurd (Nat.lt_of_lt_of_le (Heap.lt_size e) (Nat.le_trans I.ok.bsz z)) (Nat.lt_irrefl _)
 · rcases List.mem_cons.mp (I.stkSub b z) with q | q
   · exact (hfp b hb).2.1 q
   · exact (hfp b hb).2.2.1 q
 · obtain ⟨k, rfl, h4⟩ := er h2
   have h1' : (ns ++ cs.map (·.1))[ns.length + k]? = some y := h1
   rw [List.getElem?_append_right (by simp)] at h1'
   simp only [Nat.add_sub_cancel_left] at h1'
   rw [List.getElem?_map] at h1'
   cases hc : cs[k]? with
   | none => rw [hc] at h1'; simp at h1'
   | some c =>
    rw [hc] at h1'
    have ey : c.1 = y := by simpa using h1'
    subst ey
    rw [List.getElem?_map, hc] at h4
    simp only [Option.map_some, Option.some.injEq] at h4
    have h2' : σ[c.2]? = some (some v) := by
     cases q : σ[c.2]? with
     | none => rw [q] at h4; simp at h4
     | some o => rw [q] at h4; simp at h4; rw [h4]
    obtain ⟨hN, hf⟩ := ok.caps c (List.mem_of_getElem? hc)
    have hv := ok.free _ (a6 hf) rfl
    obtain ⟨mm, _, hl⟩ := I.loc
    obtain ⟨u, r, l⟩ := hl c.2 c.1 v hN h2' (.inr hv)
    refine ⟨u, r, .inr ⟨cg hf, ?_⟩⟩
    rcases l with ⟨l, _⟩ | ⟨_, a, ha, o, ho, hd⟩
    · have l' : X.env.scope.names.lookup c.1 = some .local := l
      rcases hv with z | z
      · rw [l'] at z; cases z
      · rw [l'] at z; cases z
    · obtain ⟨a', ha'⟩ := Option.isSome_iff_exists.mp (cW (env := X.env) scope.names [] (a6 hf))
      have e2 := cl1 _ _ ha'
      rw [ha] at e2
      cases e2
      exact ⟨a, lk2 _ _ (fun hm => by have z := ok.one _ hm rfl; rw [hf] at z; cases z) ha', o, old _ _ ho, hd⟩
 · rcases lk y c e with p | ⟨_, p⟩
   · exact ⟨none, (hck.empty y c p).1⟩
   · obtain ⟨v, o, ho, hd⟩ := I.cell y c (cl1 y c p)
     exact ⟨v, o, old _ _ ho, hd⟩
 · rcases lk y c e with p | ⟨_, p⟩
   · exact I.hok.fresh (Nat.le_of_lt (big y c p))
   · exact I.freeC y c (cl1 y c p)
def vS (X : Cx) (ns : List Str) (cs : List (Str × Nat)) (scope : Scope) (D : Addr) (s2 : Shared) (H2 : Hp) (fp : List Addr) (tn : Nat → Heap → Prop) (ds ys : List Dv) (b : Dv → Ev → Option Ev) (tst : Option FnB) (fe : FnE) (ρ : Ev) (m : Nat) (s' : Shared) : Prop :=
 ∃ i σ' H' es vs its, m = ds.length - i ∧ i ≤ ds.length ∧ Inv (ag X (ns ++ cs.map (·.1)) scope (D + 1) s2 H2 fp) [] σ' H' s' ∧ Envs X.K H' σ' (br ns.length cs ρ) ∧ tn i s'.heap ∧ (∀ b ∈ fp, H' b = none) ∧ H' D = none ∧ LAt s'.heap D its ∧ Vals vs its ∧ Reps X.K H' es vs ∧ es.length ≤ i ∧ Same H2 H' ∧
  (match dO b tst fe (br ns.length cs ρ) (ds.drop i) with | some zs => es ++ zs = ys | none => False)
theorem fA {X : Cx} {pins : List (Addr × Obj)} {σ : L2.St} {tg elt iter : Expr} {ifs : List Expr} {scope : Scope} {pos : Pos} {ns : List Str} {tst : Option FnB} {fe : FnE} {b : Dv → Ev → Option Ev} {js : List Nat} (cs : List (Str × Nat)) (ok : dq X.env.scope scope cs X.N) (hc : X.calm = true)
 (htg : ∀ C s H fp, FG (ag X (ns ++ cs.map (·.1)) scope C s H fp) tg b) (helt : ∀ C s H fp, (∃ pins σ, Inv X pins σ H s) → FE (ag X (ns ++ cs.map (·.1)) scope C s H fp) elt fe) (hifs : ∀ C s H fp, (∃ pins σ, Inv X pins σ H s) → ju (ag X (ns ++ cs.map (·.1)) scope C s H fp) ifs tst)
 (hback : ∀ ρ d ρ', b d (br ns.length cs ρ) = some ρ' → fgt js ρ' = br ns.length cs ρ)
 {ρ : Ev} {s2 : Shared} {it : Addr} {fp : List Addr} {tn : Nat → Heap → Prop} {J : It} {H2 : Hp} (E : Envs X.K H2 σ ρ) (I2 : Inv X pins σ H2 s2) (T : pB X.prog X.w X.K tg J fp it tn) (st2 : tn 0 s2.heap) (f2 : ∀ b ∈ fp, jk X pins H2 b) {ds ys : List Dv} (wk : WkG X.K J ds H2) (hdl : ds.length ≤ 100000) (hyl : ys.length ≤ 100000) (hm : dO b tst fe (br ns.length cs ρ) ds = some ys)
 {RR : Value → Addr → Result → Shared → Prop}
 (hRR : ∀ (D C : Addr) (s6 : Shared) (H5 : Hp) (vs : List V) (m6 : Str → Option Value), Inv X pins σ (upd H5 D (.lst vs)) s6 → H5 D = none → Same H2 H5 → Reps X.K H5 ys vs → s6.heap.Ns C m6 → H5 C = none → C ≠ D → s2.heap.objs.size ≤ C → RR (.ref D) C (.ok .next) s6) :
 wpAny (model X.prog X.w) X.A (newList []) (fun acc s₃ => wpAny (model X.prog X.w) X.A (newFunctionEnv scope X.env.globals (cz scope.names X.env []) [] X.env.qual none .none (some X.env)) (fun cenv s₄ =>
  codeAny (model X.prog X.w) X.A (.compStart (.ListComp elt [⟨tg, iter, ifs, 0⟩] scope pos) 0 (.ref it) acc { cenv with scope := relabel scope X.env }) (RR acc cenv.locals) s₄) X.xe s₃) X.xe s2 := by
 have fplt : ∀ b ∈ fp, b < s2.heap.objs.size := fun b hb => by
  obtain ⟨o, ho, _⟩ := T.obj _ _ st2 b hb
  exact Heap.lt_size ho
 refine wpAny_newObj_type (rP ok.kind ?_)
 dsimp only
 generalize hH2 : s2.heap.push { cls := .type "list", dict := none, data := .seq ([] : List Value).toArray } = P2
 obtain ⟨D, hD⟩ : ∃ D, s2.heap.objs.size = D := ⟨_, rfl⟩
 have hC : P2.objs.size = D + 1 := by rw [← hH2, Heap.size_push, hD]
 rw [hC, hD]
 obtain ⟨h₁, hh₁⟩ : ∃ h, h = pushCells (P2.push { cls := .type "dict", data := .dict #[] }) scope.names := ⟨_, rfl⟩
 rw [← hh₁]
 have kp : ∀ b o, P2.get? b = some o → h₁.get? b = some o := fun b o e => by rw [hh₁]; exact pushCells_keeps _ _ b o (Heap.get?_push_of_some _ e)
 have old : ∀ b o, s2.heap.get? b = some o → h₁.get? b = some o := fun b o e => kp b o (hH2 ▸ Heap.get?_push_of_some _ e)
 have hacc : LAt h₁ D [] := ⟨0, kp _ _ (by rw [← hH2, ← hD]; exact Heap.get?_push_size _ rfl)⟩
 have hns : h₁.Ns (D + 1) fun _ => none := by
  rw [hh₁, ← hC]
  exact (Heap.Ns.new P2 (.type "dict")).keeps (pushCells_keeps _ _)
 have hck : CellsOk h₁ (D + 1 + 1) (cellsFrom (D + 1 + 1) scope.names []) := by
  have q := cellsFrom_ok scope.names (P2.push { cls := .type "dict", data := .dict #[] }) (D + 1 + 1) [] ⟨fun _ _ hm => (nomatch hm), List.Pairwise.nil⟩ (by rw [Heap.size_push, hC]; exact Nat.le_refl _)
  rw [Heap.size_push, hC, ← hh₁] at q
  exact q
 have I4 : Inv (ag X (ns ++ cs.map (·.1)) scope (D + 1) s2 H2 fp) [] (di ns.length cs σ) H2 { s2 with heap := h₁ } := mw (t' := s2.toks) ok I2 f2 fplt (by rw [hD]; exact Nat.le_succ D) hns old hck
 have E4 : Envs X.K H2 (di ns.length cs σ) (br ns.length cs ρ) := gS ns.length cs E
 have HD : H2 D = none := I2.hok.fresh (Nat.le_of_eq hD)
 have fpD : ∀ b ∈ fp, b ≠ D := fun b hb => km (hD ▸ fplt b hb)
 have loop : ∀ s4 : Shared, s4 = { s2 with heap := h₁ } →
  codeAny (model X.prog X.w) X.A (.compLoop (.ListComp elt [⟨tg, iter, ifs, 0⟩] scope pos) 0 (.ref it) (.ref D) (compEnvC scope (cellsFrom (D + 1 + 1) scope.names (cz scope.names X.env [])) (D + 1) X.env)) (RR (.ref D) (D + 1)) s4 := by
  rintro s4 rfl
  refine dF (fun k s' => vS X ns cs scope D s2 H2 fp tn ds ys b tst fe ρ k s') ?_ ds.length ⟨0, di ns.length cs σ, H2, [], [], [], by simp, Nat.zero_le _, I4, E4, T.keep _ _ _ st2 fun b hb o e => old b o e, fun b hb => (f2 b hb).1, HD, hacc, .nil, rfl, Nat.le_refl _, .refl H2, by rw [List.drop_zero, hm]; rfl⟩
  rintro k0 s5 ⟨i, σ5, H5, es, vs, its, rfl, hi5, I5, E5, t5, fr5, D5, l5, v5, r5, hel, e5, hz⟩
  have nC : ∀ b ∈ fp, b ≠ D + 1 := fun b hb => ln (hD ▸ fplt b hb)
  have DL : D ≠ (ag X (ns ++ cs.map (·.1)) scope (D + 1) s2 H2 fp).env.locals := uG
  have Dcell : ∀ y c, (ag X (ns ++ cs.map (·.1)) scope (D + 1) s2 H2 fp).env.cells.lookup y = some c → c ≠ D := fun y c e z => by
   obtain ⟨v, o, ho, hd⟩ := I5.cell y c e
   obtain ⟨n, q⟩ := l5
   subst z
   rw [q] at ho
   cases ho
   cases hd
  have Dfs : D ∉ (ag X (ns ++ cs.map (·.1)) scope (D + 1) s2 H2 fp).fs := fun z => by
   rcases List.mem_cons.mp (I2.stkSub D z) with q | q
   · have z2 := I2.lt
     rw [hD] at z2
     exact km z2 q.symm
   · exact I2.nofs (Nat.le_of_eq hD) q
  have Dp : jk (ag X (ns ++ cs.map (·.1)) scope (D + 1) s2 H2 fp) [] H5 D := ⟨D5, DL, Dfs, .inr (Nat.le_of_eq hD), Dcell, fun p hp => absurd (show p ∈ ([] : List (Addr × Obj)) from hp) (by simp)⟩
  have Dob : ∀ b ∈ [D], ∃ o, s5.heap.get? b = some o ∧ ∀ v, o.data ≠ .cell v := fun b hb => by
   have e : b = D := by simpa using hb
   subst e
   obtain ⟨n, q⟩ := l5
   exact ⟨_, q, fun v z => by cases z⟩
  have I5p : Inv (ag X (ns ++ cs.map (·.1)) scope (D + 1) s2 H2 fp) (aG [D] s5.heap) σ5 H5 s5 := by
   have q := I5.pinned (fp := [D]) (fun b hb => by
    have e : b = D := by simpa using hb
    subst e; exact Dp) Dob
   rw [List.nil_append] at q
   exact q
  have ner : ∀ b ∈ fp, ∀ p ∈ aG [D] s5.heap, p.1 ≠ b := fun b hb p hp z => by
   have e : p.1 = D := by simpa using (ce hp).1
   exact fpD b hb (z.symm.trans e)
  have fp5' : ∀ b ∈ fp, jk (ag X (ns ++ cs.map (·.1)) scope (D + 1) s2 H2 fp) (aG [D] s5.heap) H5 b := fun b hb => ⟨fr5 b hb, nC b hb, I4.ok.exfs b hb, .inl hb, (I4.ok.exf b hb).2, fun p hp => ner b hb p (by simpa [ag] using hp)⟩
  have lenR : vs.length = es.length := r5.length
  have lenV : vs.length = its.length := v5.length
  by_cases hlt : i < ds.length
  · refine thn (T.item (ag X (ns ++ cs.map (·.1)) scope (D + 1) s2 H2 fp) rfl rfl rfl hc i (aG [D] s5.heap) s5 σ5 H5 _ I5p fp5' t5 (wk.go i H5 e5 hlt)) fun r s6 ⟨u, hr, h6⟩ => ?_
    subst hr
    refine thn h6 fun _ s7 ⟨xv, H7, I7, r7, y7, t7, fr7⟩ => ?_
    obtain ⟨e57, d, hd, rd⟩ := wk.yld i H5 xv H7 e5 hlt y7
    rw [bM hd] at hz
    have I7p := I7.pinned (fp := fp) (fun b hb => ⟨fr7 b hb, nC b hb, I4.ok.exfs b hb, .inl hb, (I4.ok.exf b hb).2, fun p hp => ner b hb p (by simpa [ag] using hp)⟩) (T.obj _ _ t7)
    have fin : ∀ {σ8 : L2.St} {H8 : Hp} {s8 : Shared}, Inv (ag X (ns ++ cs.map (·.1)) scope (D + 1) s2 H2 fp) (aG [D] s5.heap ++ aG fp s7.heap) σ8 H8 s8 → tn (i + 1) s8.heap ∧ (∀ b ∈ fp, H8 b = none) ∧ H8 D = none ∧ LAt s8.heap D its := fun {σ8 H8 s8} I8 => by
     refine ⟨T.keep _ _ _ t7 fun b hb o e => (I8.pin (b, o) (List.mem_append_right _ (List.mem_append_right _ (aA hb e)))).1, fun b hb => ?_, ?_, ?_⟩
     · obtain ⟨o, e, _⟩ := T.obj _ _ t7 b hb
       exact (I8.pin (b, o) (List.mem_append_right _ (List.mem_append_right _ (aA hb e)))).2.1
     · obtain ⟨n, q⟩ := l5
       exact (I8.pin (D, _) (List.mem_append_right _ (List.mem_append_left _ (aA (by simp) q)))).2.1
     · obtain ⟨n, q⟩ := l5
       exact ⟨n, (I8.pin (D, _) (List.mem_append_right _ (List.mem_append_left _ (aA (by simp) q)))).1⟩
    unfold dO at hz
    match hb : b d (br ns.length cs ρ) with
    | none => rw [hb] at hz; exact hz.elim
    | some ρd =>
     rw [hb] at hz
     dsimp only at hz
     refine wpAny_mono ((htg (D + 1) s2 H2 fp).h _ s7 σ5 H7 xv u d (br ns.length cs ρ) ρd I7p r7 rd (E5.mono e57) hb) (fun _ s8 ⟨σ8, H8, I8, e78, E8⟩ => ?_) fun _ _ z => False.elim z
     have e58 := e57.trans e78
     have back : ∀ {σ9 : L2.St} {H9 : Hp}, Envs X.K H9 σ9 ρd → Envs X.K H9 σ9 (br ns.length cs ρ) := fun {σ9 H9} E9 => by
      have q := Envs.fgt js E9
      rw [hback ρ d ρd hb] at q
      exact q
     have took : ∀ {H9 : Hp} {s9 : Shared}, Inv (ag X (ns ++ cs.map (·.1)) scope (D + 1) s2 H2 fp) (aG [D] s5.heap ++ aG fp s7.heap) σ8 H9 s9 → Same H8 H9 →
      (match (match fe ρd with | some (.ok y) => (match dO b tst fe (br ns.length cs ρ) (ds.drop (i + 1)) with | some ys => some (y :: ys) | none => none) | _ => none) with | some zs => es ++ zs = ys | none => False) →
      wpAny (model X.prog X.w) X.A (eval elt (compEnvC scope (cellsFrom (D + 1 + 1) scope.names (cz scope.names X.env [])) (D + 1) X.env)) (fun xw s₄ =>
       wpAny (model X.prog X.w) X.A (call (.builtin "list.append") [.ref D, xw]) (fun _ s₅ => ∃ k, k < ds.length - i ∧ vS X ns cs scope D s2 H2 fp tn ds ys b tst fe ρ k s₅) (notedBy (model X.prog X.w) X.A (compEnvC scope (cellsFrom (D + 1 + 1) scope.names (cz scope.names X.env [])) (D + 1) X.env) fun e s' => RR (.ref D) (D + 1) (.error e) s') s₄) (notedBy (model X.prog X.w) X.A (compEnvC scope (cellsFrom (D + 1 + 1) scope.names (cz scope.names X.env [])) (D + 1) X.env) fun e s' => RR (.ref D) (D + 1) (.error e) s') s9 := fun {H9 s9} I9 e9 hz9 => by
      match hfe : fe ρd, hz9 with
      | none, hz9 => exact hz9.elim
      | some (.exc c), hz9 => exact hz9.elim
      | some (.ok y), hz9 =>
       refine wpAny_mono ((helt (D + 1) s2 H2 fp ⟨_, _, I2⟩).h _ s9 σ8 H9 (fun v H10 => Same H9 H10 ∧ Rep X.K H10 y v) I9 ⟨ρd, E8.mono e9, by rw [hfe]; exact fun v H10 e10 r10 => ⟨e10, r10⟩⟩) (fun w s10 ⟨yv, H10, I10, rw10, e10, r10⟩ => ?_) fun _ _ z => False.elim z
       obtain ⟨t10, fr10, D10, l10⟩ := fin I10
       refine fm l10 (by omega) fun h11 l11 k11 => ?_
       have I10' : Inv (ag X (ns ++ cs.map (·.1)) scope (D + 1) s2 H2 fp) (aG fp s7.heap) σ8 H10 s10 := I10.pins_of fun p hp => I10.pin p (List.mem_append_right _ (List.mem_append_right _ hp))
       have I11 : Inv (ag X (ns ++ cs.map (·.1)) scope (D + 1) s2 H2 fp) (aG fp s7.heap) σ8 H10 { s10 with heap := h11 } := I10'.turned (t' := s10.toks) k11 D10 DL (.inr (Nat.le_of_eq hD)) Dcell fun p hp z => by
        have hp' : p ∈ aG fp s7.heap := by simpa [ag] using hp
        exact fpD p.1 (ce hp').1 z
       have e80 := e9.trans e10
       refine ⟨ds.length - (i + 1), by omega, i + 1, σ8, H10, es ++ [y], vs ++ [yv], its ++ [w], rfl, hlt, I11.pins_of fun p hp => absurd hp (by simp), back (E8.mono e80), T.keep _ _ _ t10 fun b hb o e => k11 b o (fpD b hb) e, fr10, D10, l11, v5.append (.cons rw10 .nil), (Reps.mono (e58.trans e80) _ _ r5).append ⟨yv, [], rfl, r10, rfl⟩, by rw [List.length_append, List.length_singleton]; omega, e5.trans (e58.trans e80), ?_⟩
       match hm2 : dO b tst fe (br ns.length cs ρ) (ds.drop (i + 1)), hz9 with
       | none, hz9 => exact hz9.elim
       | some zs, hz9 => dsimp only at hz9 ⊢; rw [List.append_assoc]; exact hz9
     have hif := hifs (D + 1) s2 H2 fp ⟨_, _, I2⟩
     cases tst with
     | none =>
      cases (show ifs = [] from hif)
      exact wpAny_tests_nil (by rw [if_pos rfl]; exact took I8 (.refl H8) hz)
     | some t =>
      obtain ⟨c, rfl, hct⟩ := hif
      match htt : t ρd, hz with
      | none, hz => simp only [htt] at hz
      | some (.exc c), hz => simp only [htt] at hz
      | some (.ok true), hz =>
       simp only [htt] at hz
       refine wpAny_tests_one (wpAny_mono (hct.h _ s8 σ8 H8 (fun b H9 => b = true ∧ Same H8 H9) I8 ⟨_, E8, by rw [htt]; exact fun H9 e9 => ⟨rfl, e9⟩⟩) (fun b s9 ⟨H9, I9, hb, e9⟩ => ?_) fun _ _ z => False.elim z)
       subst hb
       rw [if_pos rfl]
       exact took I9 e9 hz
      | some (.ok false), hz =>
       simp only [htt] at hz
       refine wpAny_tests_one (wpAny_mono (hct.h _ s8 σ8 H8 (fun b H9 => b = false ∧ Same H8 H9) I8 ⟨_, E8, by rw [htt]; exact fun H9 e9 => ⟨rfl, e9⟩⟩) (fun b s9 ⟨H9, I9, hb, e9⟩ => ?_) fun _ _ z => False.elim z)
       subst hb
       rw [if_neg Bool.false_ne_true]
       obtain ⟨t9, fr9, D9, l9⟩ := fin I9
       exact ⟨ds.length - (i + 1), by omega, i + 1, σ8, H9, es, vs, its, rfl, hlt, I9.pins_of fun p hp => absurd hp (by simp), back (E8.mono e9), t9, fr9, D9, l9, v5, Reps.mono (e58.trans e9) _ _ r5, by omega, e5.trans (e58.trans e9), hz⟩
  · have hi' : i = ds.length := by omega
    subst hi'
    rw [List.drop_length] at hz
    have hz' : es ++ [] = ys := hz
    rw [List.append_nil] at hz'
    subst hz'
    refine thn (T.done (ag X (ns ++ cs.map (·.1)) scope (D + 1) s2 H2 fp) rfl rfl rfl hc ds.length (aG [D] s5.heap) s5 σ5 H5 _ I5p fp5' t5 (wk.stop H5 e5)) fun r s6 ⟨hr, I6⟩ => ?_
    subst hr
    have l6 : LAt s6.heap D its := by
     obtain ⟨n, q⟩ := l5
     exact ⟨n, (I6.pin (D, _) (List.mem_append_right _ (aA (by simp) q))).1⟩
    obtain ⟨m6, n6, _⟩ := I6.loc
    have C6 : H5 (D + 1) = none := I6.free
    have new : ObjOk X.prog X.w (upd H5 D (.lst vs)) s6.heap D (.lst vs) := by
     obtain ⟨n, q⟩ := l6
     exact ⟨by rw [lenR]; exact aI hyl, its, n, v5, q⟩
    have u6 : Un (L2.frs X.stack) fp H2 H5 s2.heap s6.heap := I6.base
    have nD : ∀ b o, s2.heap.get? b = some o → b ≠ D := fun b o e => by
     have hb : b < D := by rw [← hD]; exact Heap.lt_size e
     exact km hb
    have u7 : Un (L2.frs X.stack) fp H2 (upd H5 D (.lst vs)) s2.heap s6.heap := ⟨u6.keep, u6.slot, fun b o e n hx => by rw [ak (nD b o e)]; exact u6.free b o e n hx, u6.there, fun b xs q => by
     have q' := u6.tups b xs q
     rw [ak (aj q' D5)]; exact q', fun b o u q => by
     have q' := u6.frzs b o u q
     rw [ak (aj q' D5)]; exact q', fun b ps q => by
     obtain ⟨more, q'⟩ := u6.tbls b ps q
     exact ⟨more, by rw [ak (aj q' D5)]; exact q'⟩⟩
    have I7 : Inv X pins σ (upd H5 D (.lst vs)) s6 := I2.call' (s' := s6) (ch := fp) I6.os u7 (HOk.add I6.hok D5 C6 (fun b u _ q => q) new) I6.bare fun b hb => ⟨(f2 b hb).2.2.2.1, (f2 b hb).2.1, (f2 b hb).2.2.2.2.1, (f2 b hb).2.2.2.2.2⟩
    exact hRR D (D + 1) s6 H5 vs m6 I7 D5 e5 r5 n6 C6 (Ne.symm uG) (by rw [hD]; exact Nat.le_succ D)
 exact codeAny_compStart_list (loop _ rfl) (T.self _ 0 _ _ _ (T.keep _ _ _ st2 fun b hb o e => old b o e) (loop _ rfl))
theorem oO {X : Cx} {tg elt iter : Expr} {ifs : List Expr} {scope : Scope} {pos : Pos} {src : FnA} {tst : Option FnB} {fe : FnE} {b : Dv → Ev → Option Ev} (osc : Scope) (N ns : List Str) (js : List Nat) (cs : List (Str × Nat)) (hosc : X.env.scope = osc) (hN : X.N = N) (ok : dq osc scope cs N) (hcl : closureFor scope X.env = pure (cz scope.names X.env [])) (hc : X.calm = true)
 (hback : ∀ ρ d ρ', b d (br ns.length cs ρ) = some ρ' → fgt js ρ' = br ns.length cs ρ)
 (hi : FIG X tg iter src) (htg : ∀ C s H fp, FG (ag X (ns ++ cs.map (·.1)) scope C s H fp) tg b) (helt : ∀ C s H fp, (∃ pins σ, Inv X pins σ H s) → FE (ag X (ns ++ cs.map (·.1)) scope C s H fp) elt fe) (hifs : ∀ C s H fp, (∃ pins σ, Inv X pins σ H s) → ju (ag X (ns ++ cs.map (·.1)) scope C s H fp) ifs tst)
 (hs : ∀ x, foldedSetIterable iter X.env x = pure x := by intro _; kernel_rfl) : FE X (.ListComp elt [⟨tg, iter, ifs, 0⟩] scope pos) (aP ns.length cs src b tst fe) := by
 subst hosc hN
 constructor
 intro pins s σ H Q I h
 obtain ⟨ρ, E, o⟩ := h
 match ho : aP ns.length cs src b tst fe ρ with
 | none => rw [ho] at o; exact o.elim
 | some r =>
  rw [ho] at o
  rw [eval_ListComp]
  have key : OutG X H (src ρ) fun J H' => ∃ ds ys, Same H H' ∧ WkG X.K J ds H' ∧ ds.length ≤ 100000 ∧ ys.length ≤ 100000 ∧ dO b tst fe (br ns.length cs ρ) ds = some ys ∧ (∀ v H'', Same H' H'' → Rep X.K H'' (.lst ys) v → Q v H'') := by
   rcases uZ ho with ⟨c, e1, e2⟩ | ⟨ds, ys, e1, e2, l1, l2, e3⟩
   · subst e2; rw [e1]; exact o
   · subst e3; rw [e1]; exact fun J H' e wk => ⟨ds, ys, e, wk, l1, l2, e2, fun v H'' e2 r => o v H'' (e.trans e2) r⟩
  refine wpAny_comprehension_free (use := none) rfl hs hcl ok.kind ok.names (thn (hi.h pins s σ H _ I ⟨ρ, E, key⟩) fun v s1 h1 => thn h1 fun itv s2 h2 => ?_)
  obtain ⟨it, fp, tn, J, H2, e, I2, T, st2, f2, ds, ys, e12, wk, hdl, hyl, hm, hQ⟩ := h2
  subst e
  refine fA cs ok hc htg helt hifs hback (E.mono e12) I2 T st2 f2 wk hdl hyl hm (RR := fun acc C => compPost (model X.prog X.w) X.A X.xe none (EP X pins σ Q) acc C) fun D C s6 H5 vs m6 I6 D5 e5 r5 n6 C6 CD hC => ?_
  refine ⟨m6, n6, fun h7 sb7 => ?_⟩
  have Cn : (upd H5 D (.lst vs)) C = none := by rw [ak CD]; exact C6
  obtain ⟨q0, q1, q2, q3, q4, q5⟩ := I2.fpOk hC Cn
  have I7 : Inv X pins σ (upd H5 D (.lst vs)) { s6 with heap := h7 } := I6.turned (t' := s6.toks) (fun b o hb e => sb7.extBut b o hb e) q0 q1 q3 q4 q5
  exact ⟨.ref D, _, I7, rfl, hQ _ _ (e5.trans (ao D5 _)) ⟨D, vs, rfl, am, Reps.mono (ao D5 _) _ _ r5⟩⟩
theorem oP {X : Cx} {tg elt iter : Expr} {ifs : List Expr} {scope : Scope} {pos : Pos} {src : FnA} {tst : Option FnB} {fe : FnE} {b : Dv → Ev → Option Ev} (osc : Scope) (N ns : List Str) (js : List Nat) (cs : List (Str × Nat)) (hosc : X.env.scope = osc) (hN : X.N = N) (ok : dq osc scope cs N) (hcl : closureFor scope X.env = pure (cz scope.names X.env [])) (hc : X.calm = true)
 (hback : ∀ ρ d ρ', b d (br ns.length cs ρ) = some ρ' → fgt js ρ' = br ns.length cs ρ)
 (hi : FIG X tg iter src) (htg : ∀ C s H fp, FG (ag X (ns ++ cs.map (·.1)) scope C s H fp) tg b) (helt : ∀ C s H fp, FE (ag X (ns ++ cs.map (·.1)) scope C s H fp) elt fe) (hifs : ∀ C s H fp, ju (ag X (ns ++ cs.map (·.1)) scope C s H fp) ifs tst)
 (hs : ∀ x, foldedSetIterable iter X.env x = pure x := by intro _; kernel_rfl) : FE X (.ListComp elt [⟨tg, iter, ifs, 0⟩] scope pos) (aP ns.length cs src b tst fe) :=
 oO osc N ns js cs hosc hN ok hcl hc hback hi htg (fun C s H fp _ => helt C s H fp) (fun C s H fp _ => hifs C s H fp) hs
theorem jP {X : Cx} {tg elt iter : Expr} {ifs : List Expr} {scope : Scope} {pos : Pos} {src : FnA} {tst : Option FnB} {fe : FnE} {b : Dv → Ev → Option Ev} {y : Str} {py spos : Pos} (i : Nat) (hnd : X.N.Nodup) (hiy : X.N[i]? = some y) (hxy : Loc X.env.scope y) (hfy : X.fn y = true ∨ X.env.scope.names.lookup y = some .local)
 (osc : Scope) (N ns : List Str) (js : List Nat) (cs : List (Str × Nat)) (hosc : X.env.scope = osc) (hN : X.N = N) (ok : dq osc scope cs N) (hcl : closureFor scope X.env = pure (cz scope.names X.env [])) (hc : X.calm = true)
 (hback : ∀ ρ d ρ', b d (br ns.length cs ρ) = some ρ' → fgt js ρ' = br ns.length cs ρ)
 (hi : FIG X tg iter src) (htg : ∀ C s H fp, FG (ag X (ns ++ cs.map (·.1)) scope C s H fp) tg b) (helt : ∀ C s H fp, FE (ag X (ns ++ cs.map (·.1)) scope C s H fp) elt fe) (hifs : ∀ C s H fp, ju (ag X (ns ++ cs.map (·.1)) scope C s H fp) ifs tst)
 (hsw : swapsWith (.ListComp elt [⟨tg, iter, ifs, 0⟩] scope pos) (some (.Name y py)) spos.line X.env = pure true := by kernel_rfl)
 (hs : ∀ x, foldedSetIterable iter X.env x = pure x := by intro _; kernel_rfl) : PS X (.Assign [.Name y py] (.ListComp elt [⟨tg, iter, ifs, 0⟩] scope pos) spos) (tC X i (aP ns.length cs src b tst fe)) := by
 subst hosc hN
 intro pins s σ H D0 I h
 obtain ⟨ρ, E, o⟩ := h
 match ho : aP ns.length cs src b tst fe ρ with
 | none => rw [ho] at o; exact o.elim
 | some r =>
  rw [ho] at o
  have key : OutG X H (src ρ) fun J H' => ∃ ds ys, Same H H' ∧ WkG X.K J ds H' ∧ ds.length ≤ 100000 ∧ ys.length ≤ 100000 ∧ dO b tst fe (br ns.length cs ρ) ds = some ys ∧ (∀ H5 p vs, Same H' H5 → H5 p = none → Reps X.K H5 ys vs → D0.nx (σ.set i (some (.ref p))) (upd H5 p (.lst vs))) := by
   rcases uZ ho with ⟨c, e1, e2⟩ | ⟨ds, ys, e1, e2, l1, l2, e3⟩
   · subst e2; rw [e1]; exact o
   · subst e3; rw [e1]; obtain ⟨ys', ey, o⟩ := o; cases ey; exact fun J H' e wk => ⟨ds, ys, e, wk, l1, l2, e2, fun H5 p vs e3 hp r => o H5 p vs (e.trans e3) hp r⟩
  rw [exec_Assign_Name_used _ _ _ _ hsw]
  refine wpAny_bind (wpAny_standAt (wpAny_bind ?_))
  show wpAny _ X.A (do let _ ← comprehension (.ListComp elt [⟨tg, iter, ifs, 0⟩] scope pos) scope X.env _ (newList []) false (eval iter X.env) (some (assign (.Name y py) X.env))) _ _ s
  refine wpAny_bind (wpAny_mono (wpAny_comprehension_free (use := some (assign (.Name y py) X.env)) (Q := fun _ s' => SP X pins D0 .next s') rfl hs hcl ok.kind ok.names
   (thn (hi.h pins s σ H _ I ⟨ρ, E, key⟩) fun v s1 h1 => thn h1 fun itv s2 h2 => ?_)) (fun _ s' hq => wpAny_pure (wpAny_pure hq)) fun _ _ e => e)
  obtain ⟨it, fp, tn, J, H2, e, I2, T, st2, f2, ds, ys, e12, wk, hdl, hyl, hm, hQ⟩ := h2
  subst e
  refine fA cs ok hc htg (fun C s H fp _ => helt C s H fp) (fun C s H fp _ => hifs C s H fp) hback (E.mono e12) I2 T st2 f2 wk hdl hyl hm (RR := fun acc C => compPost (model X.prog X.w) X.A X.xe (some (assign (.Name y py) X.env)) (fun _ s' => SP X pins D0 .next s') acc C) fun D C s6 H5 vs m6 I6 D5 e5 r5 n6 C6 CD hC => ?_
  have Cn : (upd H5 D (.lst vs)) C = none := by rw [ak CD]; exact C6
  have FC := I2.fpOk hC Cn
  obtain ⟨oC, es, ep, hoC, hdC, rC⟩ := id n6
  have I6p := I6.pinned (fp := [C]) (fun b hb => by
   have e : b = C := by simpa using hb
   subst e; exact FC) (fun b hb => by
   have e : b = C := by simpa using hb
   subst e
   exact ⟨oC, hoC, fun v z => by rw [hdC] at z; cases z⟩)
  refine thn (bW hnd hiy hxy hfy _ s6 σ _ (.ref D) (.ref D) (fun σ' H' => σ' = σ.set i (some (.ref D)) ∧ H' = upd H5 D (.lst vs)) I6p rfl ⟨rfl, rfl⟩) fun _ s8 ⟨σ8, H8, I8, e1, e2⟩ => ?_
  subst e1 e2
  have hC8 := (I8.pin (C, oC) (List.mem_append_right _ (List.mem_append_right _ (aA (by simp) hoC)))).1
  refine ⟨m6, ⟨oC, es, ep, hC8, hdC, rC⟩, fun h9 sb9 => ?_⟩
  have I8' : Inv X pins (σ.set i (some (.ref D))) (upd H5 D (.lst vs)) s8 := I8.unpinned
  obtain ⟨q0, q1, q2, q3, q4, q5⟩ := FC
  have I9 : Inv X pins (σ.set i (some (.ref D))) (upd H5 D (.lst vs)) { s8 with heap := h9 } := I8'.turned (t' := s8.toks) (fun b o hb e => sb9.extBut b o hb e) q0 q1 q3 q4 q5
  exact ⟨_, _, I9, hQ H5 D vs e5 D5 r5⟩
abbrev dP := List (Str × Nat × List Str × (List Dv → Option (Rs Dv)))
theorem c6 {β : Type} {x y : Str} {e e' : β} {T : List (Str × β)} (h : ((y, e) :: T).lookup x = some e') : (x = y ∧ e' = e) ∨ T.lookup x = some e' := by
 rw [List.lookup_cons] at h
 split at h
 · rename_i hb
   exact .inl ⟨eq_of_beq hb, by cases h; rfl⟩
 · exact .inr h
section
variable {P : Program} {w : World} {K : PySem.W.Frag} {mg : Str → Option Value} {base : Heap} {T : dP} {y : Str} {k : Nat} {ps : List Str} {F : List Dv → Option (Rs Dv)}
structure HA (P : Program) (w : World) (K : PySem.W.Frag) (mg : Str → Option Value) (base : Heap) (T : dP) : Prop where
 h : ∀ x e, T.lookup x = some e → Has P w K mg base x e.1 e.2.1 e.2.2
structure HAE (P : Program) (w : World) (K : PySem.W.Frag) (mg : Str → Option Value) (base : Heap) (T : dP) : Prop where
 h : ∀ x e, T.lookup x = some e → xj P w K mg base x e.1 e.2.1 e.2.2
structure HAM (P : Program) (w : World) (K : PySem.W.Frag) (mg : Str → Option Value) (base : Heap) (T : dP) : Prop where
 h : ∀ x e, T.lookup x = some e → xl P w K mg base x e.1 e.2.1 e.2.2
theorem vT : HA P w K mg base [] := ⟨fun _ _ h => by cases h⟩
theorem rQ : HAE P w K mg base [] := ⟨fun _ _ h => by cases h⟩
theorem rR : HAM P w K mg base [] := ⟨fun _ _ h => by cases h⟩
theorem aY (h : Has P w K mg base y k ps F) (t : HA P w K mg base T) : HA P w K mg base ((y, k, ps, F) :: T) := ⟨fun x e q => by
 rcases c6 q with ⟨rfl, rfl⟩ | q
 · exact h
 · exact t.h x e q⟩
theorem oQ (h : xj P w K mg base y k ps F) (t : HAE P w K mg base T) : HAE P w K mg base ((y, k, ps, F) :: T) := ⟨fun x e q => by
 rcases c6 q with ⟨rfl, rfl⟩ | q
 · exact h
 · exact t.h x e q⟩
theorem oR (h : xl P w K mg base y k ps F) (t : HAM P w K mg base T) : HAM P w K mg base ((y, k, ps, F) :: T) := ⟨fun x e q => by
 rcases c6 q with ⟨rfl, rfl⟩ | q
 · exact h
 · exact t.h x e q⟩
abbrev vU := List (Str × Option Dv)
def cN (s : String) : Str × Option Dv := (Str.ofString s, none)
def cI (s : String) (i : Int) : Str × Option Dv := (Str.ofString s, some (.int i))
def cS (s z : String) : Str × Option Dv := (Str.ofString s, some (.str (Str.ofString z)))
def z0 (mg : Str → Option Value) (x : Str) : Option Dv → Prop
 | none => mg x = none
 | some (.int i) => ∃ t, mg x = some (.int i t)
 | some (.str z) => ∃ t, mg x = some (.str z t)
 | _ => False
structure MA (mg : Str → Option Value) (C : vU) : Prop where
 h : ∀ x o, C.lookup x = some o → z0 mg x o
theorem MA.no {C : vU} {x : Str} (h : MA mg C) (e : C.lookup x = some none) : mg x = none := h.h x none e
def yF (K : PySem.W.Frag) (q : Str × Option Dv) : Bool := match q.2, PySem.W.nsIn K mainGlobals q.1 with
 | none, some none => true
 | some (.int i), some (some (.int j _)) => i == j
 | some (.str z), some (some (.str y _)) => z == y
 | _, _ => false
theorem vV {h : Heap} (X : K.In h) (G : h.Ns mainGlobals mg) : ∀ (C : vU), C.all (yF K) = true → MA mg C
 | [], _ => ⟨fun x o q => by cases q⟩
 | (y, o) :: C, e => ⟨fun x o' q => by
  rw [List.all_cons, Bool.and_eq_true] at e
  rcases c6 q with ⟨rfl, rfl⟩ | q
  · have h1 := e.1
    unfold yF at h1
    dsimp only at h1
    split at h1
    · rename_i e1
      exact PySem.W.mg_none_of X G e1
    · rename_i i j t e1
      have hij : i = j := eq_of_beq h1
      subst hij
      exact ⟨t, PySem.W.mg_of X G e1⟩
    · rename_i z y t e1
      have hij : z = y := eq_of_beq h1
      subst hij
      exact ⟨t, PySem.W.mg_of X G e1⟩
    · cases h1
  · exact (vV X G C e.2).h x o' q⟩
end
section
variable {X : Cx} {T : dP} {C : vU} {k' n : Nat} {x : Str} {p pos : Pos} {e : Expr} {es : List Expr} {F : List Dv → Option (Rs Dv)} {g : FnA}
theorem oU (hT : HA X.prog X.w X.K X.mg X.base T) (hr : Room k' X.A) (hF : (T.lookup x).map (fun q => q.2.2) = some F) (ha : FA X (e :: es) g) (hk : ((T.lookup x).all fun q => Nat.ble q.1 k' && Nat.beq n q.2.1.length) = true := by kernel_rfl) (hg : X.env.kindOf x = some .globalImplicit := by kernel_rfl) (hdb : (x == ("__debug__" : Str)) = false := by kernel_rfl)
 (he : starEach (e :: es) X.env = (false, eval e X.env) :: starEach es X.env := by kernel_rfl) (hpl : (backTo pos (starEach es X.env)).any (·.1) = false := by kernel_rfl) :
 FE X (.Call (.Name x p) (e :: es) [] pos) (ay F n g) := by
 cases hq : T.lookup x with
 | none => rw [hq] at hF; cases hF
 | some q =>
  rw [hq] at hF hk
  cases hF
  rw [Option.all_some, Bool.and_eq_true] at hk
  exact nU q.1 q.2.1 q.2.2 (hT.h x q hq) hr (Nat.le_of_ble_eq_true hk.1) hg ha (Nat.eq_of_beq_eq_true hk.2) hdb he hpl
theorem mx (hT : HAE X.prog X.w X.K X.mg X.base T) (hr : Room k' X.A) (hF : (T.lookup x).map (fun q => q.2.2) = some F) (hex : X.ex = []) (ha : FA X (e :: es) g) (hk : ((T.lookup x).all fun q => Nat.ble q.1 k' && Nat.beq n q.2.1.length) = true := by kernel_rfl) (hg : X.env.kindOf x = some .globalImplicit := by kernel_rfl) (hdb : (x == ("__debug__" : Str)) = false := by kernel_rfl)
 (he : starEach (e :: es) X.env = (false, eval e X.env) :: starEach es X.env := by kernel_rfl) (hpl : (backTo pos (starEach es X.env)).any (·.1) = false := by kernel_rfl) :
 FE X (.Call (.Name x p) (e :: es) [] pos) (gU F n g) := by
 cases hq : T.lookup x with
 | none => rw [hq] at hF; cases hF
 | some q =>
  rw [hq] at hF hk
  cases hF
  rw [Option.all_some, Bool.and_eq_true] at hk
  exact ol q.1 q.2.1 q.2.2 (hT.h x q hq) hr (Nat.le_of_ble_eq_true hk.1) hex hg ha (Nat.eq_of_beq_eq_true hk.2) hdb he hpl
theorem my (hT : HAM X.prog X.w X.K X.mg X.base T) (hr : RoomM k' X.A) (hF : (T.lookup x).map (fun q => q.2.2) = some F) (ha : FA X (e :: es) g) (hk : ((T.lookup x).all fun q => Nat.ble q.1 k' && Nat.beq n q.2.1.length) = true := by kernel_rfl) (hg : X.env.kindOf x = some .globalImplicit := by kernel_rfl) (hdb : (x == ("__debug__" : Str)) = false := by kernel_rfl)
 (he : starEach (e :: es) X.env = (false, eval e X.env) :: starEach es X.env := by kernel_rfl) (hpl : (backTo pos (starEach es X.env)).any (·.1) = false := by kernel_rfl) :
 FE X (.Call (.Name x p) (e :: es) [] pos) (ay F n g) := by
 cases hq : T.lookup x with
 | none => rw [hq] at hF; cases hF
 | some q =>
  rw [hq] at hF hk
  cases hF
  rw [Option.all_some, Bool.and_eq_true] at hk
  exact ou q.1 q.2.1 q.2.2 (hT.h x q hq) hr (Nat.le_of_ble_eq_true hk.1) hg ha (Nat.eq_of_beq_eq_true hk.2) hdb he hpl
theorem yG {i : Int} (hM : MA X.mg C) (hl : C.lookup x = some (some (.int i))) (hg : X.env.kindOf x = some .globalImplicit := by kernel_rfl) (hd : (x == ("__debug__" : Str)) = false := by kernel_rfl) : FE X (.Name x pos) (fC (.int i)) :=
 let ⟨_, h⟩ := hM.h x _ hl
 qO hg h hd
theorem yH {z : Str} (hM : MA X.mg C) (hl : C.lookup x = some (some (.str z))) (hg : X.env.kindOf x = some .globalImplicit := by kernel_rfl) (hd : (x == ("__debug__" : Str)) = false := by kernel_rfl) : FE X (.Name x pos) (fC (.str z)) :=
 let ⟨_, h⟩ := hM.h x _ hl
 qP hg h hd
def ndB : List Str → Bool
 | [] => true
 | x :: r => !(r.contains x) && ndB r
theorem b4 : ∀ {l : List Str}, ndB l = true → l.Nodup
 | [], _ => List.nodup_nil
 | x :: r, h => by
  unfold ndB at h
  rw [Bool.and_eq_true] at h
  refine List.nodup_cons.2 ⟨fun hx => ?_, b4 h.2⟩
  have h1 := h.1
  rw [List.contains_iff_mem.2 hx] at h1
  cases h1
def cO (sc : Scope) (x : Str) : Bool := match sc.names.lookup x with
 | some .local => true
 | some .cell => true
 | _ => false
theorem bz {sc : Scope} {x : Str} (h : cO sc x = true) : Loc sc x := by
 unfold cO at h
 split at h
 · exact .inl ‹_›
 · exact .inr ‹_›
 · cases h
def sX (osc scope : Scope) (cs : List (Str × Nat)) (N : List Str) : Bool :=
 decide (scope.kind = .function) && decide (∀ y ∈ scope.names, y.2 = .cell → scope.names.lookup y.1 = some .cell) && decide (∀ y ∈ scope.names, y.2 = .local → scope.names.lookup y.1 = some .local) && decide (∀ y ∈ scope.names, y.2 = .free → osc.names.lookup y.1 = some .cell ∨ osc.names.lookup y.1 = some .free) && decide (∀ c ∈ cs, N[c.2]? = some c.1 ∧ scope.names.lookup c.1 = some .free)
theorem mz {osc scope : Scope} {cs : List (Str × Nat)} {N : List Str} (h : sX osc scope cs N = true) : dq osc scope cs N := by
 unfold sX at h
 simp only [Bool.and_eq_true, decide_eq_true_eq] at h
 exact ⟨h.1.1.1.1, h.1.1.1.2, h.1.1.2, h.1.2, h.2⟩
theorem lkc {env : Env} : ∀ {names : List (Str × NameKind)} {x : Str}, names.lookup x = some .cell →
 (names.map fun (n, k) => if (k == NameKind.free && env.scope.kind == .function && env.kindOf n == some .cell) then (n, NameKind.cell) else (n, k)).lookup x = some .cell
 | [], _, h => by simp at h
 | (n, k) :: r, x, h => by
  rw [List.lookup_cons] at h
  rw [List.map_cons]
  cases hx : x == n with
  | true =>
   rw [hx] at h
   cases h
   simp [List.lookup_cons, hx]
  | false =>
   rw [hx] at h
   have ih := lkc (env := env) h
   dsimp only
   split
   · rw [List.lookup_cons, hx]; exact ih
   · rw [List.lookup_cons, hx]; exact ih
theorem fgL {X : Cx} {N : List Str} {scope : Scope} {C : Addr} {s : Shared} {H : Hp} {fp : List Addr} {x : Str} (h : cO scope x = true) : Loc (ag X N scope C s H fp).env.scope x ∧ ((ag X N scope C s H fp).fn x = true ∨ (ag X N scope C s H fp).env.scope.names.lookup x = some .local) := by
 rcases bz h with h | h
 · exact ⟨.inl (lookup_relabel_local h), .inr (lookup_relabel_local h)⟩
 · exact ⟨.inr (lkc h), .inl (by show (scope.names.lookup x == some .cell) = true; rw [h]; rfl)⟩
end
section
variable {X : Cx} {elt iter : Expr} {ifs : List Expr} {scope : Scope} {pos px py pt spos : Pos} {src : FnA} {tst : Option FnB} {fe : FnE} {cs : List (Str × Nat)} {x y z : Str} {i : Nat} {k : Nat}
theorem fgA {N : List Str} (C : Addr) (s : Shared) (H : Hp) (fp : List Addr) (hnd : ndB N = true) (hx : N[0]? = some x) (hl : cO scope x = true) : FG (ag X N scope C s H fp) (.Name x px) (gN 0) :=
 iF 0 (b4 hnd) hx (fgL hl).1 (fgL hl).2
theorem yI (hi : FIG X (.Name x px) iter src) (helt : ∀ C s H fp, FE (ag X (x :: cs.map (·.1)) scope C s H fp) elt fe) (hifs : ∀ C s H fp, ju (ag X (x :: cs.map (·.1)) scope C s H fp) ifs tst)
 (hok : sX X.env.scope scope cs X.N = true := by kernel_rfl) (hcl : closureFor scope X.env = pure (cz scope.names X.env []) := by kernel_rfl) (hc : X.calm = true := by kernel_rfl) (hnd : ndB (x :: cs.map (·.1)) = true := by kernel_rfl) (hl : cO scope x = true := by kernel_rfl)
 (hs : ∀ x, foldedSetIterable iter X.env x = pure x := by intro _; kernel_rfl) : FE X (.ListComp elt [⟨.Name x px, iter, ifs, 0⟩] scope pos) (b8 cs src tst fe) :=
 (mq (cs := cs) (src := src) (tst := tst) (fe := fe)) ▸ oP X.env.scope X.N [x] [0] cs rfl rfl (mz hok) hcl hc (oj _) hi (fun C s H fp => fgA C s H fp hnd rfl hl) helt hifs hs
theorem yJ (hi : FIG X (.Name x px) iter src) (helt : ∀ C s H fp, FE (ag X (x :: cs.map (·.1)) scope C s H fp) elt fe) (hifs : ∀ C s H fp, ju (ag X (x :: cs.map (·.1)) scope C s H fp) ifs tst)
 (hN : ndB X.N = true) (hiy : X.N[i]? = some y) (hxy : cO X.env.scope y = true) (hfy : X.fn y = true)
 (hok : sX X.env.scope scope cs X.N = true) (hcl : closureFor scope X.env = pure (cz scope.names X.env [])) (hc : X.calm = true) (hnd : ndB (x :: cs.map (·.1)) = true) (hl : cO scope x = true)
 (hsw : swapsWith (.ListComp elt [⟨.Name x px, iter, ifs, 0⟩] scope pos) (some (.Name y py)) spos.line X.env = pure true)
 (hs : ∀ x, foldedSetIterable iter X.env x = pure x) : PS X (.Assign [.Name y py] (.ListComp elt [⟨.Name x px, iter, ifs, 0⟩] scope pos) spos) (tC X i (aP 1 cs src (gN 0) tst fe)) :=
 jP i (b4 hN) hiy (bz hxy) (.inl hfy) X.env.scope X.N [x] [0] cs rfl rfl (mz hok) hcl hc (oj _) hi (fun C s H fp => fgA C s H fp hnd rfl hl) helt hifs hsw hs
theorem yK (hi : FIG X (.Name x px) iter src) (helt : ∀ C s H fp, FE (ag X (x :: cs.map (·.1)) scope C s H fp) elt fe) (hifs : ∀ C s H fp, ju (ag X (x :: cs.map (·.1)) scope C s H fp) ifs tst)
 (hsw : swapsWith (.ListComp elt [⟨.Name x px, iter, ifs, 0⟩] scope pos) (some (.Name y py)) spos.line X.env = pure true)
 (hN : ndB X.N = true := by kernel_rfl) (hiy : X.N[i]? = some y := by kernel_rfl) (hxy : cO X.env.scope y = true := by kernel_rfl) (hfy : X.fn y = true := by kernel_rfl)
 (hok : sX X.env.scope scope cs X.N = true := by kernel_rfl) (hcl : closureFor scope X.env = pure (cz scope.names X.env []) := by kernel_rfl) (hc : X.calm = true := by kernel_rfl) (hnd : ndB (x :: cs.map (·.1)) = true := by kernel_rfl) (hl : cO scope x = true := by kernel_rfl)
 (hs : ∀ x, foldedSetIterable iter X.env x = pure x := by intro _; kernel_rfl) : FS X (.Assign [.Name y py] (.ListComp elt [⟨.Name x px, iter, ifs, 0⟩] scope pos) spos) (bZ i (aP 1 cs src (gN 0) tst fe)) :=
 iM (yJ hi helt hifs hN hiy hxy hfy hok hcl hc hnd hl hsw hs) eC
theorem z4 {N : List Str} (C : Addr) (s : Shared) (H : Hp) (fp : List Addr) (hc : X.calm = true) (hnd : ndB N = true) (hx : N[0]? = some x) (hz : N[1]? = some z) (hl : cO scope x = true) (hl2 : cO scope z = true)
 (a1 : (assignEach [.Name x px, .Name z py] (ag X N scope C s H fp).env).map (·.2) = assign (.Name x px) (ag X N scope C s H fp).env :: (assignEach [.Name z py] (ag X N scope C s H fp).env).map (·.2)) (a2 : (assignEach [.Name z py] (ag X N scope C s H fp).env).map (·.2) = assign (.Name z py) (ag X N scope C s H fp).env :: (assignEach [] (ag X N scope C s H fp).env).map (·.2))
 (a3 : (assignEach [.Name x px, .Name z py] (ag X N scope C s H fp).env).length = 2) (a4 : (assignEach [.Name x px, .Name z py] (ag X N scope C s H fp).env).findIdx? (·.1) = none) : FG (ag X N scope C s H fp) (.Tuple [.Name x px, .Name z py] k pt) (gP 0 1) :=
 q9 0 1 hc (b4 hnd) hx (fgL hl).1 (fgL hl).2 hz (fgL hl2).1 (fgL hl2).2 a1 a2 a3 a4
theorem yL {p2 : Pos} (hi : FIG X (.Tuple [.Name x px, .Name z p2] k pt) iter src) (helt : ∀ C s H fp, FE (ag X (x :: z :: cs.map (·.1)) scope C s H fp) elt fe) (hifs : ∀ C s H fp, ju (ag X (x :: z :: cs.map (·.1)) scope C s H fp) ifs tst)
 (hsw : swapsWith (.ListComp elt [⟨.Tuple [.Name x px, .Name z p2] k pt, iter, ifs, 0⟩] scope pos) (some (.Name y py)) spos.line X.env = pure true)
 (hN : ndB X.N = true := by kernel_rfl) (hiy : X.N[i]? = some y := by kernel_rfl) (hxy : cO X.env.scope y = true := by kernel_rfl) (hfy : X.fn y = true := by kernel_rfl)
 (hok : sX X.env.scope scope cs X.N = true := by kernel_rfl) (hcl : closureFor scope X.env = pure (cz scope.names X.env []) := by kernel_rfl) (hc : X.calm = true := by kernel_rfl) (hnd : ndB (x :: z :: cs.map (·.1)) = true := by kernel_rfl) (hl : cO scope x = true := by kernel_rfl) (hl2 : cO scope z = true := by kernel_rfl)
 (hs : ∀ x, foldedSetIterable iter X.env x = pure x := by intro _; kernel_rfl) : FS X (.Assign [.Name y py] (.ListComp elt [⟨.Tuple [.Name x px, .Name z p2] k pt, iter, ifs, 0⟩] scope pos) spos) (bZ i (aP 2 cs src (gP 0 1) tst fe)) :=
 iM (jP i (b4 hN) hiy (bz hxy) (.inl hfy) X.env.scope X.N [x, z] [0, 1] cs rfl rfl (mz hok) hcl hc (yp _) hi (fun C s H fp => z4 C s H fp hc hnd rfl rfl hl hl2 rfl rfl rfl rfl) helt hifs hsw hs) eC
end
section
variable {X : Cx} {N : List Str} {scope : Scope} {c : Expr} {t : FnB}
theorem oV : ∀ C s H fp, ju (ag X N scope C s H fp) [] none := fun _ _ _ _ => rfl
theorem oW (h : ∀ C s H fp, FT (ag X N scope C s H fp) c t) : ∀ C s H fp, ju (ag X N scope C s H fp) [c] (some t) := fun C s H fp => ⟨_, rfl, h C s H fp⟩
end
section
variable {X : Cx} {a b c e st ix tg iter : Expr} {fa fb fs fi : FnE} {pos p2 pos' py apos cpos pt p1 lp ps : Pos} {i j k kk : Nat} {js : List Nat} {x y : Str} {src g : FnA} {fS : FnS} {fO : eT} {body sts : List Stmt} {es : List Expr} {is : List Nat}
theorem vW (ha : FE X a fa) (hb : FE X b fb) (hs : ∀ o i, subscripted b false o i = operate [o, i] (getItem o i) := by intro _ _; kernel_rfl) : FE X (.Subscript a b pos) (f2 ixD fa fb) := gM ha hb hs
theorem rS (he : FE X e fa) (hN : ndB X.N = true := by kernel_rfl) (hi : X.N[i]? = some x := by kernel_rfl) (hx : cO X.env.scope x = true := by kernel_rfl) (hf : X.fn x = true := by kernel_rfl) (hs : swapsWith e (some (.Name x pos')) pos.line X.env = pure false := by kernel_rfl) : FS X (.Assign [.Name x pos'] e pos) (bZ i fa) :=
 pK i (b4 hN) hi (bz hx) he hs (.inl hf)
theorem rT (he : FE X e fa) (hex : X.ex = [] := by kernel_rfl) (hij : Nat.beq i j = false := by kernel_rfl) (hN : ndB X.N = true := by kernel_rfl) (hi : X.N[j]? = some x := by kernel_rfl) (hx : cO X.env.scope x = true := by kernel_rfl) (hf : X.fn x = true := by kernel_rfl) (hs : swapsWith e (some (.Name x pos')) pos.line X.env = pure false := by kernel_rfl) : FO1 X i (.Assign [.Name x pos'] e pos) (sW j fa) :=
 vB hex j (Nat.ne_of_beq_eq_false hij) (b4 hN) hi (bz hx) he hs (.inl hf)
theorem oX (hg : FA X es g) (hr : FOs X i sts fO) (hN : ndB X.N = true := by kernel_rfl) (hi : X.N[i]? = some x := by kernel_rfl) (hx : cO X.env.scope x = true := by kernel_rfl) (hf : X.fn x = true := by kernel_rfl) (hs : swapsWith (.List es lp) (some (.Name x pos')) pos.line X.env = pure false := by kernel_rfl) : FSs X (.Assign [.Name x pos'] (.List es lp) pos :: sts) (vD i g fO) :=
 rq (b4 hN) hi (bz hx) hg hr hs (.inl hf)
theorem rV (hp : PassesOwn (model X.prog X.w) X.A X.env X.xe) (hi : FI X (.Name x py) iter src) (hb : FSs X body fS) (hc : X.calm = true := by kernel_rfl) (hN : ndB X.N = true := by kernel_rfl) (hx : X.N[i]? = some x := by kernel_rfl) (hl : cO X.env.scope x = true := by kernel_rfl) (hf : X.fn x = true := by kernel_rfl)
 (hs : ∀ x, foldedSetIterable iter X.env x = pure x := by intro _; kernel_rfl) : FS X (.For (.Name x py) iter body [] pos) (ll i js src fS) :=
 uF i js hp hc hi (bW (b4 hN) hx (bz hl) (.inl hf)) hb hs
theorem rW (hp : PassesOwn (model X.prog X.w) X.A X.env X.xe) (hi : FI X (.Name x py) iter src) (hb : FOs X i body fO) (hex : X.ex = [] := by kernel_rfl) (hij : Nat.beq i j = false := by kernel_rfl) (hc : X.calm = true := by kernel_rfl) (hN : ndB X.N = true := by kernel_rfl) (hx : X.N[j]? = some x := by kernel_rfl) (hl : cO X.env.scope x = true := by kernel_rfl) (hf : X.fn x = true := by kernel_rfl)
 (hs : ∀ x, foldedSetIterable iter X.env x = pure x := by intro _; kernel_rfl) : FO1 X i (.For (.Name x py) iter body [] pos) (p8 j js src fO) :=
 vF hex j js (Nat.ne_of_beq_eq_false hij) hp hc hi (bW (b4 hN) hx (bz hl) (.inl hf)) hb hs
theorem eD (hN : X.N[i]? = some x) (hv : cO X.env.scope x = true) (hd : (x == ("__debug__" : Str)) = false) (hcd : (x == ("__classdict__" : Str)) = false) : PE X (.Name x pos) (pA i) := kN hN ((bz hv).elim .inl fun h => .inr (.inl h)) hd hcd
end
section
variable {X : Cx} {o e : Expr} {es : List Expr} {fo : FnE} {ga : FnA} {apos cpos pos : Pos} {name : Str}
structure SmL (X : Cx) (o : Expr) (name : Str) (e : Expr) (es : List Expr) (apos cpos : Pos) : Prop where
 base : attributeBase o name X.env (eval o X.env) = eval o X.env
 few : ((backTo cpos (starEach (e :: es) X.env)).all (fun x => !x.1) && (backToKw cpos (keywordEach [] X.env)).all (fun x => x.1.isSome)
  && decide ((e :: es).length + ([] : List Keyword).length + (if ([] : List Keyword).isEmpty then 0 else 1) < 30)) = true
 line : (apos.endLine == cpos.line) = true
 s : starEach (e :: es) X.env = (false, eval e X.env) :: starEach es X.env
 plain : (backTo cpos (starEach es X.env)).any (·.1) = false
theorem mB {id : String} {r : V → List V → Hp → VK → Prop} {g : Str → List Dv → Option (Rs Dv)} (slot : Slot "str" name id) (hty : typeOf (.builtin id) = pure (.type "method_descriptor")) (hm : MtR X id r)
 (hg : ∀ i ds vs H Q, Reps X.K H ds vs → Out X H (g i ds) Q → r (.str i) vs H Q) (ho : FE X o fo) (ha : FA X (e :: es) ga) (h : SmL X o name e es apos cpos) : FE X (.Call (.Attribute o name apos) (e :: es) [] cpos) (fM g fo ga) :=
 fV slot hty hm hg ho ha h.base h.few h.line h.s h.plain
end
section
open PySem.W
structure CA (K : PySem.W.Frag) (mg : Str → Option Value) (cls : Nat → Addr) (CJ : Addr) (S : List Nat) (m : Nat) : Prop where
 at_ : ∀ c ∈ S, mg (xnm c) = some (.ref (cls c))
 j : mg "JarError" = some (.ref CJ)
 xk : ∀ c C, c < m → nsIn K mainGlobals (xnm c) = some (some (.ref C)) → excIn K C bmV "ValueError.__new__" = true ∧ mroIn K C (.ref CJ) = some true
theorem CA.c {K : PySem.W.Frag} {mg : Str → Option Value} {cls : Nat → Addr} {CJ : Addr} {S : List Nat} {m c : Nat} {x : Str} (h : CA K mg cls CJ S m) (hc : c ∈ S) (hx : xnm c = x) : mg x = some (.ref (cls c)) := by
 subst hx
 exact h.at_ c hc
def nsB (K : PySem.W.Frag) (x : Str) (a : Addr) : Bool := match nsIn K mainGlobals x with
 | some (some (.ref b)) => Nat.beq a b
 | _ => false
theorem qh {K : PySem.W.Frag} {x : Str} {a : Addr} (h : nsB K x a = true) : nsIn K mainGlobals x = some (some (.ref a)) := by
 unfold nsB at h
 split at h
 · rename_i b e
   rw [e, Nat.eq_of_beq_eq_true h]
 · cases h
def caB (K : PySem.W.Frag) (S : List Nat) (Cs : List Addr) (CJ : Addr) (m : Nat) : Bool := S.all (fun c => nsB K (xnm c) (Cs.getD c 0)) && nsB K "JarError" CJ && yC K S Cs CJ && (List.range m).all fun c => S.contains c || (match nsIn K mainGlobals (xnm c) with | some none => true | _ => false)
theorem yM {K : PySem.W.Frag} {mg : Str → Option Value} {h : Heap} {S : List Nat} {Cs : List Addr} {CJ : Addr} {m : Nat} (X : K.In h) (G : h.Ns mainGlobals mg) (e : caB K S Cs CJ m = true) : XAllS K S (fun c => Cs.getD c 0) CJ ∧ CA K mg (fun c => Cs.getD c 0) CJ S m := by
 unfold caB at e
 rw [Bool.and_eq_true, Bool.and_eq_true, Bool.and_eq_true] at e
 obtain ⟨⟨⟨e1, e2⟩, e3⟩, e4⟩ := e
 have hn : ∀ c ∈ S, nsIn K mainGlobals (xnm c) = some (some (.ref (Cs.getD c 0))) := fun c hc => qh (List.all_eq_true.1 e1 c hc)
 have xa := oG hn e3
 refine ⟨xa, fun c hc => mg_of X G (hn c hc), mg_of X G (qh e2), fun c C hc q => ?_⟩
 have h1 := List.all_eq_true.1 e4 c (List.mem_range.2 hc)
 rw [Bool.or_eq_true] at h1
 rcases h1 with h1 | h1
 · have h' : c ∈ S := by simpa using h1
   rw [xa.same h' q]
   exact ⟨(xa.at_ c h').2.1, (xa.at_ c h').2.2.2.1⟩
 · rw [q] at h1
   cases h1
end
noncomputable abbrev nsM (K : PySem.W.Frag) (x : Str) : Option (Option Value) := PySem.W.nsIn K mainGlobals x
structure Af (K : PySem.W.Frag) (x : Str) (st : Stmt) (f : Addr) : Prop where
 a : nsM K x = some (some (.ref f))
 F : ∃ fd, Fun K x x st f fd
 k : PySem.W.keepIn K (.ref f) = true
def fnB (N P : List Str) (sc : Scope) : Bool := decide (sc.kind = .function) && !sc.isCoroutine && !sc.isGenerator && ndB N && decide (N.take P.length = P) && P.all (cO sc) && decide (∀ y ∈ sc.names, y.2 ≠ .free)
theorem vX {N P : List Str} {sc : Scope} (h : fnB N P sc = true) : bX N P sc := by
 unfold fnB at h
 simp only [Bool.and_eq_true, decide_eq_true_eq, Bool.not_eq_true'] at h
 exact ⟨h.1.1.1.1.1.1, h.1.1.1.1.1.2, h.1.1.1.1.2, b4 h.1.1.1.2, h.1.1.2, fun x hx => bz (List.all_eq_true.1 h.1.2 x hx), h.2⟩
section
variable {P : Program} {w : World} {K : PySem.W.Frag} {mg : Str → Option Value} {base : Heap} {h : Heap} {k : Nat} {x : Str} {st : Stmt} {f : Addr} {F : List Dv → Option (Rs Dv)}
def xq (x : Str) (st : Stmt) (ps : List Str) : Prop := ∀ (kV doc pm : Value) (an : Option Addr) (cdv ct : Value) (us : List Value), us.length = ps.length → bindArgs (PySem.W.fnOf x x (dc st) (aN st) (ah st) .none kV doc pm an cdv ct) ⟨us, []⟩ = pure (ps.zip us)
theorem bF (XI : K.In h) (Gn : h.Ns mainGlobals mg) (N ps : List Str) (fb : FnS) (A : Af K x st f) (hbd : xq x st ps)
 (hb : ∀ (cdv : Value) (A : Around) (outer : List Env) (s : Shared) (H : Hp) (E : XK), Room k (A.deeper (envOfC x (ah st) s.heap.objs.size f cdv)) → FSs (ik CX0 P w K mg base N x (ah st) f cdv A outer s H E).nox (aN st) fb) (hF : F = dD N.length fb := by kernel_rfl) (hs : fnB N ps (ah st) = true := by kernel_rfl) : Has P w K mg base x (k + 1) ps F :=
 let ⟨_, Fn⟩ := A.F
 ⟨_, _, pM N ps fb hF rfl Fn (vX hs) hb, PySem.W.mg_of XI Gn A.a, A.k, Fn.binds hbd⟩
theorem rX (XI : K.In h) (Gn : h.Ns mainGlobals mg) (N ps : List Str) (fb : FnS) (A : Af K x st f) (hbd : xq x st ps)
 (hb : ∀ (cdv : Value) (A : Around) (outer : List Env) (s : Shared) (H : Hp) (E : XK), Room k (A.deeper (envOfC x (ah st) s.heap.objs.size f cdv)) → FSs (ik (CXE P w) P w K mg base N x (ah st) f cdv A outer s H E) (aN st) fb) (hF : F = pW N.length fb := by kernel_rfl) (hs : fnB N ps (ah st) = true := by kernel_rfl) : xj P w K mg base x (k + 1) ps F :=
 let ⟨_, Fn⟩ := A.F
 ⟨_, _, ve N ps fb hF rfl Fn (vX hs) hb, PySem.W.mg_of XI Gn A.a, A.k, Fn.binds hbd⟩
theorem rY (XI : K.In h) (Gn : h.Ns mainGlobals mg) (N ps : List Str) (fb : FnS) (A : Af K x st f) (hbd : xq x st ps)
 (hb : ∀ (cdv : Value) (A : Around) (outer : List Env) (s : Shared) (H : Hp), RoomM k (A.deeper (envOfC x (ah st) s.heap.objs.size f cdv)) → FSs (cxM P w K mg base N x (ah st) f cdv A outer s H) (aN st) fb) (hF : F = dD N.length fb := by kernel_rfl) (hs : fnB N ps (ah st) = true := by kernel_rfl) : xl P w K mg base x (k + 1) ps F :=
 let ⟨_, Fn⟩ := A.F
 ⟨_, _, vj N ps fb hF Fn (vX hs) hb, PySem.W.mg_of XI Gn A.a, A.k, Fn.binds hbd⟩
end
section
theorem rZ {X : Cx} {pl : List (Addr × Obj)} {e : Addr} {k : Nat} (h : Room k X.A) : RoomM k (gW X pl e).A := ⟨h.dp, h.un⟩
end
end FD
namespace TS
open PySem PySem.Spec PyProof.Rows L2 FD
def yN (p q : Value) (e l : Bool) : Prop := ∀ (prog : Program) (w : World) (A : Around) (E : Value → Shared → Prop) (s : Shared),
 (∀ Q : Bool → Shared → Prop, Q e s → wpAny (model prog w) A (eqBool p q) Q E s) ∧ (∀ Q : Value → Shared → Prop, Q (.bool l) s → wpAny (model prog w) A (richCompare .Gt p q) Q E s)
inductive mC : List (Value × Value) → List (Bool × Bool) → Prop
 | nil : mC [] []
 | cons {p q : Value} {e l : Bool} {ps : List (Value × Value)} {rs : List (Bool × Bool)} : yN p q e l → mC ps rs → mC ((p, q) :: ps) ((e, l) :: rs)
section
open PySem.SeqAt
open PySem.AutoSeq1 (wpAny_loadPart')
open PySem.MeetsSeq PySem.MeetsSeq2 PySem.MeetsSeq3
end
end TS
namespace FD
open PySem PySem.Spec PyProof.Rows L2 TS
section
variable {X : Cx}
end
end FD
namespace FD
open PySem PySem.Spec PyProof.Rows L2
def ix (k : Int) : List Int → Nat
 | [] => 0
 | m :: r => if m = k then 0 else ix k r + 1
structure S2 (X : Cx) (i k : Nat) (a b : Addr) (H : Hp) (σ : L2.St) (Hf : Hp) (ρ : Ev) : Prop where
 off : ∀ c, c ≠ a → c ≠ b → Hf c = H c
 na : H a = none
 nb : H b = none
 ne : a ≠ b
 ia : σ[i]? = some (some (.ref a))
 kb : σ[k]? = some (some (.ref b))
 len : σ.length = ρ.length
 low : ∀ j d, j ≠ i → j ≠ k → ρ[j]? = some (some d) → ∃ v, σ[j]? = some (some v) ∧ Rep X.K H d v
 fst : ∃ ds xs, ρ[i]? = some (some (.lst ds)) ∧ Hf a = some (.lst xs) ∧ Reps X.K H ds xs
 snd : ∃ es ys, ρ[k]? = some (some (.lst es)) ∧ Hf b = some (.lst ys) ∧ Reps X.K H es ys
section
variable {X : Cx} {i k : Nat} {a b : Addr} {H Hf : Hp} {σ : L2.St} {ρ : Ev}
theorem S2.up (S : S2 X i k a b H σ Hf ρ) : Same H Hf := fun c u q => by
 rw [S.off c (aj q S.na) (aj q S.nb)]; exact q
theorem S2.grow (S : S2 X i k a b H σ Hf ρ) {Hg : Hp} (e : Same Hf Hg) : ∃ H', Same H H' ∧ S2 X i k a b H' σ Hg ρ := by
 obtain ⟨ds, xs, f1, f2, f3⟩ := S.fst
 obtain ⟨es, ys, g1, g2, g3⟩ := S.snd
 have up : Same H (fun c => if c = a ∨ c = b then none else Hg c) := fun c u q => by
  have h1 := aj q S.na
  have h2 := aj q S.nb
  simp only [h1, h2, or_self, if_false]
  exact e c u (by rw [S.off c h1 h2]; exact q)
 refine ⟨_, up, ⟨fun c h1 h2 => by simp [h1, h2], by simp, by simp, S.ne, S.ia, S.kb, S.len, fun j d h1 h2 h3 => ?_, ⟨ds, xs, f1, e _ _ f2, Reps.mono up _ _ f3⟩, ⟨es, ys, g1, e _ _ g2, Reps.mono up _ _ g3⟩⟩⟩
 obtain ⟨v, q1, q2⟩ := S.low j d h1 h2 h3
 exact ⟨v, q1, Rep.mono up _ _ q2⟩
theorem S2.put (S : S2 X i k a b H σ Hf ρ) {j : Nat} {d : Dv} {v : V} (h1 : j ≠ i) (h2 : j ≠ k) (r : Rep X.K H d v) : S2 X i k a b H (σ.set j (some v)) Hf (ρ.set j (some d)) := by
 obtain ⟨ds, xs, f1, f2, f3⟩ := S.fst
 obtain ⟨es, ys, g1, g2, g3⟩ := S.snd
 refine ⟨S.off, S.na, S.nb, S.ne, by rw [List.getElem?_set_ne h1]; exact S.ia, by rw [List.getElem?_set_ne h2]; exact S.kb, by rw [List.length_set, List.length_set]; exact S.len, fun m d' m1 m2 hm => ?_, ⟨ds, xs, by rw [List.getElem?_set_ne h1]; exact f1, f2, f3⟩, ⟨es, ys, by rw [List.getElem?_set_ne h2]; exact g1, g2, g3⟩⟩
 by_cases hj : j = m
 · subst hj
   by_cases hl : j < ρ.length
   · rw [List.getElem?_set_self hl] at hm
     cases hm
     exact ⟨v, by rw [List.getElem?_set_self (by rw [S.len]; exact hl)], r⟩
   · rw [List.getElem?_eq_none (by rw [List.length_set]; omega)] at hm
     cases hm
 · rw [List.getElem?_set_ne hj] at hm
   rw [List.getElem?_set_ne hj]
   exact S.low m d' m1 m2 hm
end
abbrev FnP := Ev → Option Ev
def AftP (X : Cx) (i k : Nat) (a b : Addr) (H : Hp) (o : Option Ev) (N : L2.St → Hp → Prop) : Prop := ∃ ρ', o = some ρ' ∧ ∀ σ' H' Hf', Same H H' → S2 X i k a b H' σ' Hf' ρ' → N σ' Hf'
def tP (X : Cx) (i k : Nat) (f : FnP) : TS := fun D σ Hf => ∃ H a b ρ, S2 X i k a b H σ Hf ρ ∧ AftP X i k a b H (f ρ) D.nx
structure FP (X : Cx) (i k : Nat) (st : Stmt) (f : FnP) : Prop where
 h : PS X st (tP X i k f)
structure FPs (X : Cx) (i k : Nat) (st : List Stmt) (f : FnP) : Prop where
 h : PSs X st (tP X i k f)
section
variable {X : Cx} {i k : Nat} {st : Stmt} {sts : List Stmt} {f g : FnP} {fe : FnE} {gb : FnB} {e c : Expr} {pos : Pos}
theorem AftP.mono {a b : Addr} {H H' : Hp} {o : Option Ev} {N : L2.St → Hp → Prop} (e : Same H H') : AftP X i k a b H o N → AftP X i k a b H' o N
 | ⟨ρ', h, q⟩ => ⟨ρ', h, fun σ' H1 Hf' e1 => q σ' H1 Hf' (e.trans e1)⟩
end
section
variable {X : Cx} {elt iter : Expr} {x y z w : Str} {px py pz pw pt pos : Pos} {ifs : List Expr} {scope : Scope} {k : Nat} {src : FnA} {tst : Option FnB} {fe : FnE} {cs : List (Str × Nat)}
end
section
variable {X : Cx} {i k : Nat} {st : Stmt} {sts : List Stmt} {f g : FnP} {fe : FnE} {gb : FnB} {e c : Expr} {pos : Pos}
end
section
variable {X : Cx} {i : Nat} {e : Expr} {fe : FnE} {pos : Pos}
end
end FD
namespace L2
open PySem PySem.Spec PyProof.Rows
section
variable {κ : Type} [DecidableEq κ]
def gy (kvs : List (κ × V)) (k : κ) : Option V := (kvs.find? fun kv => decide (kv.1 = k)).map (·.2)
def fD (kvs : List (κ × V)) (k : κ) (v : V) : List (κ × V) :=
 if (kvs.any fun kv => decide (kv.1 = k)) = true then kvs.map (fun kv => if kv.1 = k then (kv.1, v) else kv) else kvs ++ [(k, v)]
def vY (kvs : List (κ × V)) (k : κ) : List (κ × V) := kvs.filter fun kv => decide (kv.1 ≠ k)
theorem dR {p : κ × V} {r : List (κ × V)} {k : κ} (e : p.1 = k) : gy (p :: r) k = some p.2 := by simp [gy, List.find?_cons, e]
theorem dU {p : κ × V} {r : List (κ × V)} {k : κ} (e : ¬ p.1 = k) : gy (p :: r) k = gy r k := by simp [gy, List.find?_cons, e]
theorem jQ (k : κ) : ∀ kvs : List (κ × V), (kvs.any fun kv => decide (kv.1 = k)) = (gy kvs k).isSome
 | [] => rfl
 | p :: r => by
  rw [List.any_cons]
  by_cases e : p.1 = k
  · simp only [dR e, decide_eq_true e, Bool.true_or, Option.isSome_some]
  · rw [dU e, decide_eq_false e, Bool.false_or]; exact jQ k r
theorem cP (kvs : List (κ × V)) (k : κ) (v : V) : (fD kvs k v).length ≤ kvs.length + 1 := by
 unfold fD
 split
 · rw [List.length_map]; omega
 · rw [List.length_append, List.length_cons, List.length_nil]; omega
theorem RelO.isSome_eq {o : Option V} {u : Option Value} (r : RelO o u) : o.isSome = u.isSome := by
 cases o with
 | none => cases u with
  | none => rfl
  | some _ => exact (show False from r).elim
 | some _ => cases u with
  | none => exact (show False from r).elim
  | some _ => rfl
theorem RelO.getD {o : Option V} {u : Option Value} {d : V} {d' : Value} (r : RelO o u) (rd : RelV d d') : RelV (o.getD d) (u.getD d') := by
 cases o with
 | none => cases u with
  | none => exact rd
  | some _ => exact (show False from r).elim
 | some _ => cases u with
  | none => exact (show False from r).elim
  | some _ => exact r
theorem KV.val {kvs : List (κ × V)} {vs : List (κ × Value)} (r : KV kvs vs) (k : κ) : RelO (gy kvs k) (valueAt vs k) := by
 unfold KV at r
 induction r with
 | nil => exact True.intro
 | @cons p q ps qs h t ih =>
  obtain ⟨h1, h2⟩ := h
  by_cases e : p.1 = k
  · have e' : q.1 = k := h1.symm.trans e
    have b : valueAt (q :: qs) k = some q.2 := by simp [valueAt, List.find?_cons, e']
    rw [dR e, b]; exact h2
  · have e' : ¬ q.1 = k := fun z => e (h1.trans z)
    have b : valueAt (q :: qs) k = valueAt qs k := by simp [valueAt, List.find?_cons, e']
    rw [dU e, b]; exact ih
theorem KV.any {kvs : List (κ × V)} {vs : List (κ × Value)} (r : KV kvs vs) (k : κ) : (kvs.any fun kv => decide (kv.1 = k)) = vs.any fun kv => decide (kv.1 = k) := by
 unfold KV at r
 induction r with
 | nil => rfl
 | cons h t ih => rw [List.any_cons, List.any_cons, ih, h.1]
theorem KV.repl {kvs : List (κ × V)} {vs : List (κ × Value)} (r : KV kvs vs) (k : κ) {y : V} {u : Value} (ry : RelV y u) :
 KV (kvs.map fun kv => if kv.1 = k then (kv.1, y) else kv) (vs.map fun kv => if kv.1 = k then (kv.1, u) else kv) := by
 unfold KV at r ⊢
 induction r with
 | nil => exact .nil
 | @cons p q ps qs h t ih =>
  rw [List.map_cons, List.map_cons]
  refine .cons ?_ ih
  obtain ⟨h1, h2⟩ := h
  by_cases e : p.1 = k
  · rw [if_pos e, if_pos (h1.symm.trans e)]; exact ⟨h1, ry⟩
  · rw [if_neg e, if_neg (fun z => e (h1.trans z))]; exact ⟨h1, h2⟩
theorem KV.put {kvs : List (κ × V)} {vs : List (κ × Value)} (r : KV kvs vs) (k : κ) {y : V} {u : Value} (ry : RelV y u) : KV (fD kvs k y) (stored vs k u) := by
 unfold fD stored
 rw [r.any k]
 by_cases e : (vs.any fun kv => decide (kv.1 = k)) = true
 · rw [if_pos e, if_pos e]; exact r.repl k ry
 · rw [if_neg e, if_neg e]; exact Paired.snoc r ⟨rfl, ry⟩
theorem KV.drop {kvs : List (κ × V)} {vs : List (κ × Value)} (r : KV kvs vs) (k : κ) : KV (vY kvs k) (without vs k) := by
 unfold KV at r ⊢
 unfold vY without
 induction r with
 | nil => exact .nil
 | @cons p q ps qs h t ih =>
  obtain ⟨h1, h2⟩ := h
  rw [List.filter_cons, List.filter_cons]
  by_cases e : p.1 = k
  · have a : ¬ decide (p.1 ≠ k) = true := by simp [e]
    have b : ¬ decide (q.1 ≠ k) = true := by simp [h1.symm.trans e]
    rw [if_neg a, if_neg b]; exact ih
  · have e' : ¬ q.1 = k := fun z => e (h1.trans z)
    have a : decide (p.1 ≠ k) = true := by simp [e]
    have b : decide (q.1 ≠ k) = true := by simp [e']
    rw [if_pos a, if_pos b]; exact .cons ⟨h1, h2⟩ ih
theorem KV.keys {kvs : List (κ × V)} {vs : List (κ × Value)} (r : KV kvs vs) : kvs.map (·.1) = vs.map (·.1) := by
 unfold KV at r
 induction r with
 | nil => rfl
 | cons h t ih => rw [List.map_cons, List.map_cons, ih, h.1]
theorem KV.length {kvs : List (κ × V)} {vs : List (κ × Value)} (r : KV kvs vs) : kvs.length = vs.length := Paired.length r
end
theorem mD {P : Program} {w : World} {k : Key} {u : Value} (r : RelV (kV k) u) : (aM P w).is k u = true := by
 cases k with
 | inl i => obtain ⟨t, e⟩ := (show ∃ t, u = Value.int i t from r); subst e; exact io P w i t
 | inr x => obtain ⟨t, e⟩ := (show ∃ t, u = Value.str x t from r); subst e; exact ip P w x t
theorem hU {P : Program} {w : World} : ∀ {ks : List Key} {us : List Value}, Vals (ks.map kV) us → ItemsAre (aM P w) ks us
 | [], _, r => by rw [List.map_nil] at r; cases r; exact .nil
 | k :: ks, _, r => by
  rw [List.map_cons] at r
  cases r with
  | cons h t => exact .cons (mD h) (hU t)
abbrev KT (H : Hp) : List (List Key × V) → List (List Key × Addr × Value) → Prop := Paired fun p q => p.1 = q.1 ∧ H q.2.1 = some (.tup (p.1.map kV)) ∧ RelV p.2 q.2.2
theorem KT.val {H : Hp} {kvs : List (List Key × V)} {xs : List (List Key × Addr × Value)} (r : KT H kvs xs) (k : List Key) : RelO (gy kvs k) ((atKey xs k).map (·.2)) := by
 induction r with
 | nil => exact True.intro
 | @cons p q ps qs h t ih =>
  obtain ⟨h1, _, h2⟩ := h
  by_cases e : p.1 = k
  · have e' : q.1 = k := h1.symm.trans e
    have b : atKey (q :: qs) k = some q.2 := by simp [atKey, List.find?_cons, e']
    rw [dR e, b]; exact h2
  · have e' : ¬ q.1 = k := fun z => e (h1.trans z)
    have b : atKey (q :: qs) k = atKey qs k := by simp [atKey, List.find?_cons, e']
    rw [dU e, b]; exact ih
theorem KT.repl {H : Hp} {kvs : List (List Key × V)} {xs : List (List Key × Addr × Value)} (r : KT H kvs xs) (k : List Key) {y : V} {u : Value} (ry : RelV y u) :
 KT H (kvs.map fun kv => if kv.1 = k then (kv.1, y) else kv) (xs.map (putAt k u)) := by
 induction r with
 | nil => exact .nil
 | @cons p q ps qs h t ih =>
  rw [List.map_cons, List.map_cons]
  refine .cons ?_ ih
  obtain ⟨h1, h2, h3⟩ := h
  unfold putAt
  by_cases e : p.1 = k
  · rw [if_pos e, if_pos (h1.symm.trans e)]; exact ⟨h1, h2, ry⟩
  · rw [if_neg e, if_neg (fun z => e (h1.trans z))]; exact ⟨h1, h2, h3⟩
theorem KT.put {H : Hp} {kvs : List (List Key × V)} {xs : List (List Key × Addr × Value)} (r : KT H kvs xs) (k : List Key) {b : Addr} {y : V} {u : Value} (hb : H b = some (.tup (k.map kV))) (ry : RelV y u) :
 KT H (fD kvs k y) (storedH xs k b u) := by
 have e : (kvs.any fun kv => decide (kv.1 = k)) = (atKey xs k).isSome := by
  rw [jQ, (r.val k).isSome_eq, Option.isSome_map]
 unfold fD storedH
 rw [e]
 by_cases q : (atKey xs k).isSome = true
 · rw [if_pos q, if_pos q]; exact r.repl k ry
 · rw [if_neg q, if_neg q]; exact Paired.snoc r ⟨rfl, hb, ry⟩
theorem KT.keeps {H H' : Hp} {kvs : List (List Key × V)} {xs : List (List Key × Addr × Value)} (r : KT H kvs xs) (ht : ∀ b ys, H b = some (.tup ys) → H' b = some (.tup ys)) : KT H' kvs xs :=
 Paired.mapP r fun _ _ z => ⟨z.1, ht _ _ z.2.1, z.2.2⟩
section
variable {P : Program} {w : World} {H : Hp} {h : Heap} {a : Addr}
theorem vZ {u : HO} (ok : HOk P w H h) (e : Rd H a u) : ObjOk P w H h a u := e.ok ok
theorem mE {kvs : List (Key × V)} (ok : HOk P w H h) (e : Rd H a (.dK kvs)) : kvs.length ≤ sizeLine ∧ (a == sysModules) = false ∧ ∃ vs, KV kvs vs ∧ h.DictOf (aM P w) a vs :=
 show ObjOk P w H h a (.dK kvs) from vZ ok e
theorem v6 {kvs : List (Key × V)} (ok : HOk P w H h) (e : H a = some (.dK kvs)) : kvs.length ≤ sizeLine ∧ (a == sysModules) = false ∧ ∃ vs, KV kvs vs ∧ h.DictOf (aM P w) a vs := mE ok (.inl e)
theorem jR {ks : List Key} (ok : HOk P w H h) (e : H a = some (.tup (ks.map kV))) : (tupleKind (aM P w)).is h ks a := by
 obtain ⟨_, its, r, o, h1, h2, n, h3⟩ := (show ObjOk P w H h a (.tup (ks.map kV)) from ok a _ e)
 exact ⟨o, its.toArray, n, h1, h2, h3, by simpa using hU r⟩
theorem mF {kvs : List (List Key × V)} (ok : HOk P w H h) (e : Rd H a (.dT kvs)) : kvs.length ≤ sizeLine ∧ (a == sysModules) = false ∧
 ∃ xs, KT H kvs xs ∧ h.DictOfH (tupleKind (aM P w)) a xs := by
 obtain ⟨z, y, xs, r, o, es, ep, h1, h2, h3, h4, h5⟩ := (show ObjOk P w H h a (.dT kvs) from vZ ok e)
 refine ⟨z, y, xs, r, o, es, ep, h1, h2, h3, h4, fun x hx => ?_, h5⟩
 have all : ∀ {l : List (List Key × V)} {m : List (List Key × Addr × Value)}, KT H l m → ∀ x ∈ m, (tupleKind (aM P w)).is h x.1 x.2.1 := by
  intro l m q
  induction q with
  | nil => intro x hx; exact nomatch hx
  | @cons p q ps qs hq t ih =>
   intro x hx
   rcases List.mem_cons.mp hx with e | hx
   · subst e
     exact jR ok (by rw [← hq.1]; exact hq.2.1)
   · exact ih x hx
 exact all r x hx
theorem yO {kvs : List (List Key × V)} (ok : HOk P w H h) (e : H a = some (.dT kvs)) : kvs.length ≤ sizeLine ∧ (a == sysModules) = false ∧
 ∃ xs, KT H kvs xs ∧ h.DictOfH (tupleKind (aM P w)) a xs := mF ok (.inl e)
end
def DGet (H : Hp) (a : Addr) (y : V) (r : Option V) : Prop :=
 (∃ kvs k, Rd H a (.dK kvs) ∧ y = kV k ∧ r = gy kvs k) ∨ ∃ kvs k b, Rd H a (.dT kvs) ∧ y = .ref b ∧ H b = some (.tup (k.map kV)) ∧ r = gy kvs k
def DPut (H : Hp) (a : Addr) (y v : V) (H' : Hp) : Prop :=
 (∃ kvs k, H a = some (.dK kvs) ∧ y = kV k ∧ kvs.length < sizeLine ∧ H' = upd H a (.dK (fD kvs k v))) ∨
 ∃ kvs k b, H a = some (.dT kvs) ∧ y = .ref b ∧ H b = some (.tup (k.map kV)) ∧ kvs.length < sizeLine ∧ H' = upd H a (.dT (fD kvs k v))
theorem DGet.k {H : Hp} {a : Addr} {kvs : List (Key × V)} {k : Key} (e : H a = some (.dK kvs)) : DGet H a (kV k) (gy kvs k) := .inl ⟨kvs, k, .inl e, rfl, rfl⟩
theorem DGet.t {H : Hp} {a b : Addr} {kvs : List (List Key × V)} {k : List Key} (e : H a = some (.dT kvs)) (eb : H b = some (.tup (k.map kV))) : DGet H a (.ref b) (gy kvs k) := .inr ⟨kvs, k, b, .inl e, rfl, eb, rfl⟩
theorem DPut.k {H : Hp} {a : Addr} {kvs : List (Key × V)} {k : Key} {v : V} (e : H a = some (.dK kvs)) (hl : kvs.length < sizeLine) : DPut H a (kV k) v (upd H a (.dK (fD kvs k v))) := .inl ⟨kvs, k, e, rfl, hl, rfl⟩
theorem DPut.t {H : Hp} {a b : Addr} {kvs : List (List Key × V)} {k : List Key} {v : V} (e : H a = some (.dT kvs)) (eb : H b = some (.tup (k.map kV))) (hl : kvs.length < sizeLine) :
 DPut H a (.ref b) v (upd H a (.dT (fD kvs k v))) := .inr ⟨kvs, k, b, e, rfl, eb, hl, rfl⟩
section
variable {X : Cx} {pins : List (Addr × Obj)} {σ : St} {H : Hp} {s : Shared} {a : Addr} {y v : V} {u r : Value} {o : Option V} {A : Around} {E : Value → Shared → Prop}
theorem Inv.big (I : Inv X pins σ H s) : sysModules < s.heap.objs.size := by
 have h : mainGlobals < s.heap.objs.size := (I.mod.glob.keeps I.bk).lt
 exact Nat.lt_trans (by decide) h
theorem mG {Q : Value → Shared → Prop} (hu : A.units + 1 < cLine) (I : Inv X pins σ H s) (g : DGet H a y (some v)) (ry : RelV y u) (h : ∀ w' s', Inv X pins σ H s' → RelV v w' → Q w' s') :
 wpAny (model X.prog X.w) A (getItem (.ref a) u) Q E s := by
 rcases g with ⟨kvs, k, e, ey, l⟩ | ⟨kvs, k, b, e, ey, eb, l⟩
 · subst ey
   obtain ⟨z, hd, vs, rel, dd⟩ := mE I.hok e
   obtain ⟨w', hw, rw'⟩ := RelO.some_of (v := v) (o := valueAt vs k) (by rw [l]; exact rel.val k)
   exact wpAny_getItem_of (mD ry) dd.mapOf hw (h w' _ (I.tok _) rw')
 · subst ey
   cases (show u = Value.ref b from ry)
   obtain ⟨z, hd, xs, rel, dd⟩ := mF I.hok e
   obtain ⟨w', hw, rw'⟩ := RelO.some_of (v := v) (o := (atKey xs k).map (·.2)) (by rw [l]; exact rel.val k)
   obtain ⟨p, hp, hp2⟩ := Option.map_eq_some_iff.mp hw
   refine wpAny_getItem_heap (tupleKind_room_in1 hu) (jR I.hok eb) dd hp ?_
   rw [hp2]
   exact h w' _ (I.tok _) rw'
theorem iN {h' : Heap} {t' : Nat} {ob : HO} (I : Inv X pins σ H s) (mu : Mut (H a)) (hs : Heap.SameBut a s.heap h') (he : ∃ q, h'.get? a = some q) (new : ObjOk X.prog X.w (upd H a ob) h' a ob) :
 Inv X pins σ (upd H a ob) { s with heap := h', toks := t' } :=
 I.write (x := a) (e := a) mu (.inl rfl) (fun b q hb z => (hs.2 b hb).trans z) he new
theorem qi {P : Program} {w : World} {H' : Hp} {h' : Heap} {kvs : List (Key × V)} {vs : List (Key × Value)} (z : kvs.length ≤ sizeLine) (hd : (a == sysModules) = false) (rel : KV kvs vs) (dd : h'.DictOf (aM P w) a vs) :
 ObjOk P w H' h' a (.dK kvs) := ⟨z, hd, vs, rel, dd⟩
theorem mH {H' : Hp} {Q : Unit → Shared → Prop} (hu : A.units + 1 < cLine) (I : Inv X pins σ H s) (g : DPut H a y v H') (ry : RelV y u) (rv : RelV v r) (h : ∀ s', Inv X pins σ H' s' → Q () s') :
 wpAny (model X.prog X.w) A (setItem (.ref a) u r) Q E s := by
 rcases g with ⟨kvs, k, e, ey, l, eH⟩ | ⟨kvs, k, b, e, ey, eb, l, eH⟩
 · subst ey eH
   obtain ⟨z, hd, vs, rel, dd⟩ := v6 I.hok e
   have hz : vs.length ≤ sizeLine := by rw [← rel.length]; exact z
   have hl : (fD kvs k v).length ≤ sizeLine := by have := cP kvs k v; omega
   refine wpAny_setItem_pairs (hsz := hz) (mD ry) dd fun h' dd' hs => h _ ?_
   have he : ∃ q, h'.get? a = some q := let ⟨q, _, _, hq, _⟩ := dd'; ⟨q, hq⟩
   exact iN I (by rw [e]; exact True.intro) hs he (qi hl hd (rel.put k rv) dd')
 · subst ey eH
   cases (show u = Value.ref b from ry)
   obtain ⟨z, hd, xs, rel, dd⟩ := yO I.hok e
   have hz : xs.length ≤ sizeLine := by rw [← Paired.length rel]; exact z
   have hl : (fD kvs k v).length ≤ sizeLine := by have := cP kvs k v; omega
   refine wpAny_setItem_heap (hsz := hz) (tupleKind_room_in1 hu) (jR I.hok eb) dd fun h' dd' hs => h _ ?_
   obtain ⟨q, es, ep, hq, h2, h3, h4, _, h5⟩ := dd'
   refine iN I (by rw [e]; exact True.intro) hs ⟨q, hq⟩ ⟨hl, hd, _, (rel.put k eb rv).keeps fun c ys ec => ?_, q, es, ep, hq, h2, h3, h4, h5⟩
   rw [ak (xB ec e (fun z => nomatch z))]
   exact ec
end
section
variable {X : Cx} {pins : List (Addr × Obj)} {σ : St} {H : Hp} {s : Shared} {a : Addr} {kvs : List (Key × V)} {k : Key} {u : Value} {A : Around} {E : Value → Shared → Prop}
end
def xr (i : Expr) : Prop := ∀ ov iv, subscripted i false ov iv = operate [ov, iv] (getItem ov iv)
theorem r9 {prog : Program} {w : World} {A : Around} {E : Value → Shared → Prop} {s : Shared} {env : Env} {value slice : Expr} {pos : Pos} {T id : String} {Q : Value → Shared → Prop}
 (hl : typeLookup (.type T) "__getitem__" = pure (some (.builtin id))) (hs : xr slice)
 (h : wpAny (model prog w) A (eval value env) (fun o s₁ => wpAny (model prog w) A (eval slice env) (fun i s₂ => s₂.TypeIs o T ∧ wpAny (model prog w) A (getItem o i) Q E s₂) E s₁) E s) :
 wpAny (model prog w) A (eval (.Subscript value slice pos) env) Q E s := by
 refine Subscript_ (wpAny_mono h (fun o s₁ h₁ => wpAny_mono h₁ (fun i s₂ h₂ => ?_) fun _ _ x => x) fun _ _ x => x)
 obtain ⟨hT, h₂⟩ := h₂
 unfold subscriptTail
 refine wpAny_bind ?_
 rw [getitemInPython_of_ne hT.not_modules]
 refine wpAny_bind (wpAny_specialOf hT hl ?_)
 have fin : wpAny (model prog w) A (subscripted slice false o i) (fun r s₃ => wpAny (model prog w) A (letTemporaryGo value o r >>= fun _ => pure r) Q E s₃) E s₂ := by
  rw [hs o i]
  exact wpAny_operating (wpAny_mono h₂ (fun r s₃ h₃ => wpAny_bind (wpAny_letTemporaryGo (wpAny_pure h₃))) fun _ _ x => x)
 first
  | exact wpAny_pure (wpAny_bind fin)
  | exact wpAny_bind (wpAny_pure (wpAny_bind fin))
  | exact wpAny_bind fin
theorem iO {X : Cx} {pins : List (Addr × Obj)} {σ : St} {H : Hp} {s : Shared} {a : Addr} {y : V} {o : Option V} (I : Inv X pins σ H s) (g : DGet H a y o) : s.TypeIs (.ref a) "dict" := by
 rcases g with ⟨kvs, k, e, _, _⟩ | ⟨kvs, k, b, e, _, _, _⟩
 · obtain ⟨_, _, vs, _, dd⟩ := mE I.hok e
   exact dd.typeIs
 · obtain ⟨_, _, xs, _, dd⟩ := mF I.hok e
   exact dd.typeIs
def yP (td ty : TE) : TE := fun σ H Q => td σ H fun x H1 => ty σ H1 fun y H2 => ∃ a v, x = .ref a ∧ DGet H2 a y (some v) ∧ Q v H2
def yQ (td ty tv : TE) : TS := fun D σ H => tv σ H fun v H1 => td σ H1 fun x H2 => ty σ H2 fun y H3 => ∃ a H4, x = .ref a ∧ DPut H3 a y v H4 ∧ D.nx σ H4
section
variable {X : Cx} {o i e value : Expr} {pos pos' tpos : Pos} {td ty tv : TE}
theorem se (hu : X.A.units + 1 < cLine) (ho : PE X o td) (hi : PE X i ty) (hs : xr i) : PE X (.Subscript o i pos) (yP td ty) := by
 intro pins s σ H Q I h
 refine r9 PySem.F.slot_dict_getitem.lookup hs (thn (ho pins s σ H _ I h) fun u s1 ⟨x, H1, I1, rx, q1⟩ => thn (hi pins s1 σ H1 _ I1 q1) fun iv s2 ⟨y, H2, I2, ry, a, v, ex, g, q2⟩ => ?_)
 subst ex
 obtain rfl : u = Value.ref a := rx
 exact ⟨iO I2 g, mG hu I2 g ry fun w' s3 I3 rw' => ⟨v, H2, I3, rw', q2⟩⟩
theorem sf (hu : X.A.units + 1 < cLine) (ho : PE X o td) (hi : PE X i ty) (hv : PE X value tv) (hs : swapsWith value (some (.Subscript o i pos')) pos.line X.env = pure false) :
 PS X (.Assign [.Subscript o i pos'] value pos) (yQ td ty tv) := by
 intro pins s σ H D I h
 refine wpAny_Assign_Subscript (thn (hv pins s σ H _ I h) fun r s1 ⟨v, H1, I1, rv, q1⟩ => thn (ho pins s1 σ H1 _ I1 q1) fun u s2 ⟨x, H2, I2, rx, q2⟩ => thn (hi pins s2 σ H2 _ I2 q2) fun iv s3 ⟨y, H3, I3, ry, a, H4, ex, g, q3⟩ => ?_) hs
 subst ex
 obtain rfl : u = Value.ref a := rx
 exact mH hu I3 g ry rv fun s4 I4 => ⟨σ, H4, I4, q3⟩
end
theorem oY {P : Program} {w : World} {H : Hp} (h : Heap) (hb : sysModules < h.objs.size) : ObjOk P w H (h.push { cls := .type "dict", data := .dict #[] }) h.objs.size (.dK []) :=
 ⟨Nat.zero_le _, beq_eq_false_iff_ne.mpr (Ne.symm (Nat.ne_of_lt hb)), [], .nil, Heap.DictOf.new h⟩
section
variable {X : Cx} {pos : Pos}
end
def mI : List (TE × TE) → St → Hp → (List (V × V) → Hp → Prop) → Prop
 | [], _, H, Q => Q [] H
 | (tk, tv) :: r, σ, H, Q => tk σ H fun x H1 => tv σ H1 fun y H2 => mI r σ H2 fun ps H3 => Q ((x, y) :: ps) H3
abbrev VV : List (V × V) → List (Value × Value) → Prop := Paired fun p q => RelV p.1 q.1 ∧ RelV p.2 q.2
def PPs (X : Cx) (pos : Pos) (keys : List (Option Expr)) (values : List Expr) (trs : List (TE × TE)) : Prop :=
 ∀ (pins : List (Addr × Obj)) (s : Shared) (σ : St) (H : Hp) (Q : List (V × V) → Hp → Prop), Inv X pins σ H s → mI trs σ H Q →
  wpAny (model X.prog X.w) X.A (evalPairs (pairTrees keys values X.env pos)) (fun vs s' => ∃ ps H', Inv X pins σ H' s' ∧ VV ps vs ∧ Q ps H') X.xe s
theorem sg {X : Cx} {pos : Pos} : PPs X pos [] [] [] := fun pins s σ H Q I h => pairTrees_nil_walk ⟨[], H, I, .nil, h⟩
theorem jS {X : Cx} {pos : Pos} {k v : Expr} {ks : List (Option Expr)} {vs : List Expr} {tk tv : TE} {trs : List (TE × TE)} (hk : PE X k tk) (hv : PE X v tv) (hr : PPs X pos ks vs trs) :
 PPs X pos (some k :: ks) (v :: vs) ((tk, tv) :: trs) := fun pins s σ H Q I h =>
 pairTrees_cons_walk (thn (hk pins s σ H _ I h) fun u s1 ⟨x, H1, I1, rx, q1⟩ => thn (hv pins s1 σ H1 _ I1 q1) fun w2 s2 ⟨y, H2, I2, ry, q2⟩ =>
  thn (hr pins s2 σ H2 _ I2 q2) fun ws s3 ⟨ps, H3, I3, rel, q3⟩ => ⟨(x, y) :: ps, H3, I3, .cons ⟨rx, ry⟩ rel, q3⟩)
def eE (kvs more : List (Key × V)) : List (Key × V) := more.foldl (fun acc kv => fD acc kv.1 kv.2) kvs
theorem KV.merge : ∀ {more : List (Key × V)} {rs : List (Key × Value)} {kvs : List (Key × V)} {vs : List (Key × Value)}, KV more rs → KV kvs vs → KV (eE kvs more) (merged vs rs) := by
 intro more rs kvs vs r
 unfold KV at r
 induction r generalizing kvs vs with
 | nil => intro q; exact q
 | @cons p q ps qs h t ih =>
  intro r0
  have e : KV (fD kvs p.1 p.2) (stored vs q.1 q.2) := by
   have := r0.put p.1 h.2
   rw [← h.1]; exact this
  exact ih e
theorem c7 : ∀ (more kvs : List (Key × V)), (eE kvs more).length ≤ kvs.length + more.length
 | [], kvs => by show kvs.length ≤ kvs.length + 0; omega
 | p :: r, kvs => by
  have h1 := c7 r (fD kvs p.1 p.2)
  have h2 := cP kvs p.1 p.2
  show (eE (fD kvs p.1 p.2) r).length ≤ _
  rw [List.length_cons]; omega
theorem fE {P : Program} {w : World} : ∀ {kvs : List (Key × V)} {ws : List (Value × Value)}, VV (kvs.map fun kv => (kV kv.1, kv.2)) ws → ∃ rs, Carries (aM P w) ws rs ∧ KV kvs rs
 | [], _, r => by rw [List.map_nil] at r; cases r; exact ⟨[], True.intro, .nil⟩
 | p :: kvs, _, r => by
  rw [List.map_cons] at r
  cases r with
  | @cons a b as bs h t =>
   obtain ⟨rs, c, q⟩ := fE (P := P) (w := w) t
   obtain ⟨b1, b2⟩ := b
   exact ⟨(p.1, b2) :: rs, ⟨mD h.1, rfl, c⟩, .cons ⟨rfl, h.2⟩ q⟩
def yR (trs : List (TE × TE)) : TE := fun σ H Q => ∀ p, H p = none → mI trs σ (upd H p (.dK [])) fun ps H2 => H2 p = some (.dK []) ∧ ∃ kvs : List (Key × V), ps = kvs.map (fun kv => (kV kv.1, kv.2)) ∧ kvs.length ≤ 15 ∧ Q (.ref p) (upd H2 p (.dK (eE [] kvs)))
theorem sh {X : Cx} {pos : Pos} {keys : List (Option Expr)} {values : List Expr} {trs : List (TE × TE)} (h : PPs X pos keys values trs) (hall : keys.all (·.isSome) = true) (hl : keys.length = values.length) (h0 : keys ≠ [])
 (h15 : keys.length ≤ 15) : PE X (.Dict keys values pos) (yR trs) := by
 intro pins s σ H Q I q
 have hn := I.hok.fresh (Nat.le_refl s.heap.objs.size)
 have I1 := I.laid (a := s.heap.objs.size) (o := .dK []) (h' := s.heap.push { cls := .type "dict", data := .dict #[] }) (t' := s.toks) (fun _ _ q => Heap.get?_push_of_some _ q) (Nat.le_refl _) (oY s.heap I.big)
 refine wpAny_Dict_walk (knd := aM X.prog X.w) hall hl h0 h15 (thn (h pins _ σ _ _ I1 (q _ hn)) fun ws s2 ⟨ps, H2, I2, rel, e, kvs, ep, lk, q2⟩ => ?_)
 subst ep
 obtain ⟨rs, c, rk⟩ := fE (P := X.prog) (w := X.w) rel
 obtain ⟨z, hd, vs0, r0, dd⟩ := v6 I2.hok e
 cases r0
 refine ⟨rs, c, dd, fun h' dd' hs => ⟨.ref s.heap.objs.size, _, ?_, rfl, q2⟩⟩
 have hz : (eE [] kvs).length ≤ sizeLine := by
  have h1 := c7 kvs []
  rw [List.length_nil] at h1
  rw [sizeLine_eq]; omega
 have he : ∃ q, h'.get? s.heap.objs.size = some q := let ⟨q, _, _, hq, _⟩ := dd'; ⟨q, hq⟩
 exact iN I2 (by rw [e]; exact True.intro) hs he (qi hz hd (rk.merge .nil) dd')
structure M1 (X : Cx) (o : Expr) (m : Str) (apos : Pos) (e : Expr) (cpos : Pos) : Prop where
 base : attributeBase o m X.env (eval o X.env) = eval o X.env
 few : ((backTo cpos (starEach [e] X.env)).all (fun x => !x.1) && (backToKw cpos (keywordEach [] X.env)).all (fun x => x.1.isSome)
  && decide (([e] : List Expr).length + ([] : List Keyword).length + (if ([] : List Keyword).isEmpty then 0 else 1) < 30)) = true
 line : (apos.endLine == cpos.line) = true
 trees : backTo cpos (starEach [e] X.env) = [(false, eval e X.env)]
structure M2 (X : Cx) (o : Expr) (m : Str) (apos : Pos) (e f : Expr) (cpos : Pos) : Prop where
 base : attributeBase o m X.env (eval o X.env) = eval o X.env
 few : ((backTo cpos (starEach [e, f] X.env)).all (fun x => !x.1) && (backToKw cpos (keywordEach [] X.env)).all (fun x => x.1.isSome)
  && decide (([e, f] : List Expr).length + ([] : List Keyword).length + (if ([] : List Keyword).isEmpty then 0 else 1) < 30)) = true
 line : (apos.endLine == cpos.line) = true
 trees : backTo cpos (starEach [e, f] X.env) = [(false, eval e X.env), (false, eval f X.env)]
def IsD (H : Hp) (a : Addr) : Prop := (∃ kvs, Rd H a (.dK kvs)) ∨ ∃ kvs, Rd H a (.dT kvs)
theorem v7 {X : Cx} {pins : List (Addr × Obj)} {σ : St} {H : Hp} {s : Shared} {a : Addr} (I : Inv X pins σ H s) (d : IsD H a) :
 s.TypeIs (.ref a) "dict" ∧ (∀ b, Value.ref a = .ref b → ∃ ob, s.heap.get? b = some ob ∧ ob.dict = none) ∧ (a == sysModules) = false := by
 rcases d with ⟨kvs, e⟩ | ⟨kvs, e⟩
 · obtain ⟨_, hd, vs, _, dd⟩ := mE I.hok e
   refine ⟨dd.typeIs, fun b q => ?_, hd⟩
   cases q
   obtain ⟨ob, _, _, h1, h2, _⟩ := dd
   exact ⟨ob, h1, h2.2.1⟩
 · obtain ⟨_, hd, xs, _, dd⟩ := mF I.hok e
   refine ⟨dd.typeIs, fun b q => ?_, hd⟩
   cases q
   obtain ⟨ob, _, _, h1, h2, _⟩ := dd
   exact ⟨ob, h1, h2.2.1⟩
section
variable {X : Cx} {pins : List (Addr × Obj)} {σ : St} {H : Hp} {s : Shared} {a : Addr} {y d : V} {u r : Value} {o : Option V} {A : Around} {E : Value → Shared → Prop}
theorem v8 {Q : Value → Shared → Prop} (hu : A.units + 1 < cLine) (I : Inv X pins σ H s) (g : DGet H a y o) (ry : RelV y u) (h : ∀ w' s', Inv X pins σ H s' → RelV (o.getD .non) w' → Q w' s') :
 wpAny (model X.prog X.w) A (call (.builtin "dict.get") [.ref a, u]) Q E s := by
 rcases g with ⟨kvs, k, e, ey, l⟩ | ⟨kvs, k, b, e, ey, eb, l⟩
 · subst ey
   obtain ⟨z, hd, vs, rel, dd⟩ := mE I.hok e
   refine call_meetsIn PySem.F.slot_dict_get dd.typeIs PySem.F.entry_dict_get (PySem.F.args_dict_get_2 _ _) (meets_dict_get (aM X.prog X.w) a (mD ry) hd) ⟨_, dd.mapOf, h _ _ (I.tok _) ?_⟩
   rw [l]
   exact (rel.val k).getD rfl
 · subst ey
   cases (show u = Value.ref b from ry)
   obtain ⟨z, hd, xs, rel, dd⟩ := mF I.hok e
   refine call_meetsIn PySem.F.slot_dict_get dd.typeIs PySem.F.entry_dict_get (PySem.F.args_dict_get_2 _ _) (meetsH_dict_get (tupleKind (aM X.prog X.w)) a b hd) ⟨tupleKind_room_in1 hu, k, xs, jR I.hok eb, dd, h _ _ (I.tok _) ?_⟩
   rw [l]
   exact (rel.val k).getD rfl
end
def v9 (td ty : TE) : TE := fun σ H Q => td σ H fun x H1 => ∃ a, x = .ref a ∧ IsD H1 a ∧ ty σ H1 fun y H2 => ∃ o, DGet H2 a y o ∧ Q (o.getD .non) H2
section
variable {X : Cx} {o e f : Expr} {apos cpos : Pos} {td ty tx : TE}
theorem oZ (hu : X.A.units + 1 < cLine) (ho : PE X o td) (he : PE X e ty) (m : M1 X o "get" apos e cpos) : PE X (.Call (.Attribute o "get" apos) [e] [] cpos) (v9 td ty) := by
 intro pins s σ H Q I h
 refine wpAny_Call_method m.base m.few m.line PySem.F.plainAttrs_dict PySem.F.slot_dict_get PySem.F.type_dict_get (thn (ho pins s σ H _ I h) fun u s1 ⟨x, H1, I1, rx, a, ex, d, q1⟩ => ?_)
 subst ex
 obtain rfl : u = Value.ref a := rx
 obtain ⟨t1, t2, _⟩ := v7 I1 d
 refine ⟨t1, t2, ?_⟩
 rw [m.trees]
 refine Calls.callWith_builtin rfl (Calls.evalArgs_plain (Calls.spliced_cons (thn (he pins s1 σ H1 _ I1 q1) fun iv s2 ⟨y, H2, I2, ry, ov, g, q2⟩ => Calls.spliced_nil ?_)))
 exact v8 hu I2 g ry fun w' s3 I3 rw' => ⟨_, H2, I3, rw', q2⟩
end
section
variable {X : Cx} {pins : List (Addr × Obj)} {σ : St} {H : Hp} {s : Shared} {a : Addr} {y : V} {u : Value} {A : Around} {E : Value → Shared → Prop}
end
end L2
namespace FD
namespace DK
open PySem PySem.Spec PyProof.Rows L2
abbrev Kv := List (Str × Dv)
def NoD (u : HO) : Prop := ∀ kvs, u ≠ .dK kvs
section
variable {K : PySem.W.Frag} {H H' : Hp}
mutual
theorem Rep.off (k : ∀ b u, NoD u → H b = some u → H' b = some u) : ∀ (d : Dv) (v : V), Rep K H d v → Rep K H' d v
 | .non, _, h => h
 | .bl _, _, h => h
 | .int _, _, h => h
 | .str _, _, h => h
 | .tup ds, v, h => by
  obtain ⟨a, xs, r, h, q⟩ := h.tupE
  exact ⟨a, xs, r, k _ _ (fun _ z => by cases z) h, Reps.off k ds xs q⟩
 | .lst ds, v, h => by
  obtain ⟨a, xs, r, h, q⟩ := h.lstE
  exact ⟨a, xs, r, k _ _ (fun _ z => by cases z) h, Reps.off k ds xs q⟩
 | .scr ns, v, h => by
  obtain ⟨a, r, h⟩ : ∃ a, v = .ref a ∧ SqL K H a (ns.map V.int) := h
  refine ⟨a, r, ?_⟩
  rcases h with (h | ⟨o, h⟩) | h
  · exact .inl (.inl (k _ _ (fun _ z => by cases z) h))
  · exact .inl (.inr ⟨o, k _ _ (fun _ z => by cases z) h⟩)
  · exact .inr h
 | .exn c, v, h => by
  obtain ⟨a, o, u, C, r, h, q⟩ : ∃ a o u C, v = .ref a ∧ H a = some (.frz o u) ∧ o.cls = .ref C ∧ PySem.W.nsIn K mainGlobals (xnm c) = some (some (.ref C)) := h
  exact ⟨a, o, u, C, r, k _ _ (fun _ z => by cases z) h, q⟩
theorem Reps.off (k : ∀ b u, NoD u → H b = some u → H' b = some u) : ∀ (ds : List Dv) (vs : List V), Reps K H ds vs → Reps K H' ds vs
 | [], _, h => h
 | d :: ds, vs, h => by
  obtain ⟨v, us, r, h, q⟩ : ∃ v us, vs = v :: us ∧ Rep K H d v ∧ Reps K H ds us := h
  exact ⟨v, us, r, Rep.off k d v h, Reps.off k ds us q⟩
end
end
def kS (k : Str) : Key := Sum.inr k
theorem mJ {k j : Str} (h : kS k = kS j) : k = j := Sum.inr.inj h
def putD (kv : Kv) (k : Str) (d : Dv) : Kv := if (kv.any fun p => decide (p.1 = k)) = true then kv.map (fun p => if p.1 = k then (p.1, d) else p) else kv ++ [(k, d)]
def valD (kv : Kv) (k : Str) : Option Dv := (kv.find? fun p => decide (p.1 = k)).map (·.2)
inductive KD (K : PySem.W.Frag) (H : Hp) : Kv → List (Key × V) → Prop
 | nil : KD K H [] []
 | cons {k : Str} {d : Dv} {v : V} {kv : Kv} {kvs : List (Key × V)} : Rep K H d v → KD K H kv kvs → KD K H ((k, d) :: kv) ((kS k, v) :: kvs)
section
variable {K : PySem.W.Frag} {H H' : Hp}
theorem KD.mono (f : ∀ d v, Rep K H d v → Rep K H' d v) : ∀ {kv : Kv} {kvs : List (Key × V)}, KD K H kv kvs → KD K H' kv kvs
 | _, _, .nil => .nil
 | _, _, .cons r t => .cons (f _ _ r) (KD.mono f t)
theorem KD.length : ∀ {kv : Kv} {kvs : List (Key × V)}, KD K H kv kvs → kv.length = kvs.length
 | _, _, .nil => rfl
 | _, _, .cons r t => by rw [List.length_cons, List.length_cons, KD.length t]
theorem KD.any (k : Str) : ∀ {kv : Kv} {kvs : List (Key × V)}, KD K H kv kvs → (kvs.any fun p => decide (p.1 = kS k)) = kv.any fun p => decide (p.1 = k)
 | _, _, .nil => rfl
 | _, _, .cons (k := j) r t => by
  rw [List.any_cons, List.any_cons, KD.any k t]
  congr 1
  show decide (kS j = kS k) = decide (j = k)
  rw [Bool.eq_iff_iff]
  simp only [decide_eq_true_eq]
  exact ⟨mJ, fun h => by rw [h]⟩
theorem KD.map {k : Str} {d : Dv} {v : V} (r0 : Rep K H d v) : ∀ {kv : Kv} {kvs : List (Key × V)}, KD K H kv kvs → KD K H (kv.map fun p => if p.1 = k then (p.1, d) else p) (kvs.map fun p => if p.1 = kS k then (p.1, v) else p)
 | _, _, .nil => .nil
 | _, _, .cons (k := j) r t => by
  rw [List.map_cons, List.map_cons]
  by_cases h : j = k
  · subst h
    simp only [if_true]
    exact .cons r0 (KD.map r0 t)
  · have h2 : ¬ kS j = kS k := fun z => h (mJ z)
    simp only [h, h2, if_false]
    exact .cons r (KD.map r0 t)
theorem KD.snoc {k : Str} {d : Dv} {v : V} (r0 : Rep K H d v) : ∀ {kv : Kv} {kvs : List (Key × V)}, KD K H kv kvs → KD K H (kv ++ [(k, d)]) (kvs ++ [(kS k, v)])
 | _, _, .nil => .cons r0 .nil
 | _, _, .cons r t => .cons r (KD.snoc r0 t)
theorem KD.put {k : Str} {d : Dv} {v : V} (r0 : Rep K H d v) {kv : Kv} {kvs : List (Key × V)} (t : KD K H kv kvs) : KD K H (putD kv k d) (fD kvs (kS k) v) := by
 unfold putD fD
 rw [t.any k]
 split
 · exact KD.map r0 t
 · exact KD.snoc r0 t
theorem KD.val (k : Str) : ∀ {kv : Kv} {kvs : List (Key × V)}, KD K H kv kvs → (match valD kv k with | some d => ∃ v, gy kvs (kS k) = some v ∧ Rep K H d v | none => gy kvs (kS k) = none)
 | _, _, .nil => rfl
 | _, _, .cons (k := j) (d := d) (v := v) (kv := kv) (kvs := kvs) r t => by
  by_cases h : j = k
  · subst h
    have e1 : valD ((j, d) :: kv) j = some d := by simp [valD]
    have e2 : gy ((kS j, v) :: kvs) (kS j) = some v := dR rfl
    rw [e1]
    exact ⟨v, e2, r⟩
  · have e1 : valD ((j, d) :: kv) k = valD kv k := by simp [valD, List.find?_cons, h]
    have e2 : gy ((kS j, v) :: kvs) (kS k) = gy kvs (kS k) := dU fun z => h (mJ z)
    rw [e1, e2]
    exact KD.val k t
end
def Off (a : Addr) (H H' : Hp) : Prop := ∀ b u, b ≠ a → H b = some u → H' b = some u
structure T1 (X : Cx) (i : Nat) (a : Addr) (H : Hp) (σ : L2.St) (ρ : Ev) (kv : Kv) : Prop where
 ia : σ[i]? = some (some (.ref a))
 no : ∀ d, ρ[i]? ≠ some (some d)
 env : Envs X.K H σ ρ
 dct : ∃ kvs, H a = some (.dK kvs) ∧ KD X.K H kv kvs
section
variable {X : Cx} {i : Nat} {a : Addr} {H H' : Hp} {σ : L2.St} {ρ : Ev} {kv : Kv}
theorem T1.mono (T : T1 X i a H σ ρ kv) (e : Same H H') : T1 X i a H' σ ρ kv := by
 obtain ⟨kvs, h1, h2⟩ := T.dct
 exact ⟨T.ia, T.no, T.env.mono e, kvs, e _ _ h1, h2.mono fun d v r => Rep.mono e d v r⟩
theorem T1.set (T : T1 X i a H σ ρ kv) {j : Nat} (hj : j ≠ i) {d : Dv} {v : V} (r : Rep X.K H d v) : T1 X i a H (σ.set j (some v)) (ρ.set j (some d)) kv :=
 ⟨by rw [List.getElem?_set_ne hj]; exact T.ia, fun d' => by rw [List.getElem?_set_ne hj]; exact T.no d', T.env.set r, T.dct⟩
theorem T1.put (T : T1 X i a H σ ρ kv) {k : Str} {d : Dv} {v : V} {kvs : List (Key × V)} (h1 : H a = some (.dK kvs)) (h2 : KD X.K H kv kvs) (r : Rep X.K H d v) : T1 X i a (upd H a (.dK (fD kvs (kS k) v))) σ ρ (putD kv k d) := by
 have k0 : ∀ b u, NoD u → H b = some u → upd H a (.dK (fD kvs (kS k) v)) b = some u := fun b u hn q => by
  have hb : b ≠ a := fun z => by rw [z, h1] at q; cases q; exact hn _ rfl
  rw [ak hb]; exact q
 refine ⟨T.ia, T.no, ⟨T.env.len, fun j d' hj => ?_⟩, _, am, (h2.put r).mono fun d v r => Rep.off k0 d v r⟩
 obtain ⟨v', q1, q2⟩ := T.env.at' j d' hj
 exact ⟨v', q1, Rep.off k0 _ _ q2⟩
end
def xt : Dv → Option Str
 | .str x => some x
 | _ => none
theorem iP {K : PySem.W.Frag} {H : Hp} {d : Dv} {k : Str} {v : V} (h : xt d = some k) (r : Rep K H d v) : v = kV (kS k) := by
 cases d <;> try (cases h; done)
 cases h
 exact r
end DK
namespace DK
open PySem PySem.Spec PyProof.Rows L2
abbrev FnV := Ev → Kv → Option Dv
def tV (X : Cx) (i : Nat) (g : FnV) : TE := fun σ H Q => ∃ a ρ kv, T1 X i a H σ ρ kv ∧ ∃ d, g ρ kv = some d ∧ ∀ v H', Same H H' → Rep X.K H' d v → Q v H'
structure FV (X : Cx) (i : Nat) (e : Expr) (g : FnV) : Prop where
 h : PE X e (tV X i g)
def vE (f : FnE) : FnV := fun ρ _ => match f ρ with
 | some (.ok d) => some d
 | _ => none
abbrev FnD := Ev → Kv → Option (Ev × Kv)
def tDc (X : Cx) (i : Nat) (f : FnD) : TS := fun D σ H => ∃ a ρ kv, T1 X i a H σ ρ kv ∧ ∃ ρ' kv', f ρ kv = some (ρ', kv') ∧ ∀ σ' H', Off a H H' → T1 X i a H' σ' ρ' kv' → D.nx σ' H'
structure FDs (X : Cx) (i : Nat) (st : List Stmt) (f : FnD) : Prop where
 h : PSs X st (tDc X i f)
structure il (X : Cx) (i : Nat) (st : Stmt) (f : FnD) : Prop where
 h : PS X st (tDc X i f)
def dPut (fk : FnE) (g : FnV) : FnD := fun ρ kv => match g ρ kv, fk ρ with
 | some d, some (.ok k) => (match xt k with
  | some k => if kv.length < 100000 then some (ρ, putD kv k d) else none
  | none => none)
 | _, _ => none
def loopD (j : Nat) (body : FnD) : List Dv → FnD
 | [], ρ, kv => some (ρ, kv)
 | d :: ds, ρ, kv => match body (ρ.set j (some d)) kv with
  | some (ρ', kv') => loopD j body ds ρ' kv'
  | none => none
def dFor (j : Nat) (src : FnE) (body : FnD) : FnD := fun ρ kv => match src ρ with
 | some (.ok (.tup ds)) => loopD j body ds ρ kv
 | _ => none
theorem Off.refl (a : Addr) (H : Hp) : Off a H H := fun _ _ _ h => h
theorem Off.trans {a : Addr} {H1 H2 H3 : Hp} (p : Off a H1 H2) (q : Off a H2 H3) : Off a H1 H3 := fun b u n h => q b u n (p b u n h)
theorem Off.of {a : Addr} {H H' : Hp} (e : Same H H') : Off a H H' := fun b u _ h => e b u h
section
variable {X : Cx} {i : Nat} {e ke de : Expr} {fe fk fd : FnE} {g : FnV} {pos : Pos}
theorem fv_of (he : FE X e fe) : FV X i e (vE fe) := ⟨fun pins s σ H Q I ⟨a, ρ, kv, T, d, hd, q⟩ => he.h pins s σ H Q I ⟨ρ, T.env, by
 unfold vE at hd
 split at hd
 · rename_i d' h
   cases hd
   rw [h]
   exact q
 · cases hd⟩⟩
theorem wa {x : Str} {xp pos' : Pos} {value : Expr} (hu : X.A.units + 1 < cLine) (hx : PE X (.Name x xp) (pA i)) (hk : FE X ke fk) (hv : FV X i value g) (hs : swapsWith value (some (.Subscript (.Name x xp) ke pos')) pos.line X.env = pure false := by kernel_rfl) :
 il X i (.Assign [.Subscript (.Name x xp) ke pos'] value pos) (dPut fk g) := ⟨fun pins s σ H D I ⟨a, ρ, kv, T, ρ', kv', hf, q⟩ => by
 unfold dPut at hf
 split at hf
 · rename_i d k0 e1 e2
   split at hf
   · rename_i k ek
     split at hf
     · rename_i hl
       cases hf
       refine sf hu hx hk.h hv.h hs pins s σ H D I ⟨a, ρ, kv, T, d, e1, fun v H1 s1 r1 => ⟨.ref a, T.ia, ρ, (T.mono s1).env, ?_⟩⟩
       rw [e2]
       intro vk H2 s2 rk
       cases iP ek rk
       have T2 := T.mono (s1.trans s2)
       obtain ⟨kvs2, g1, g2⟩ := T2.dct
       have hlen : kvs2.length < sizeLine := by
        have := g2.length
        have h2 := aI (n := kvs2.length + 1) (by omega)
        omega
       refine ⟨a, _, rfl, DPut.k g1 hlen, q σ _ (fun b u hn h => ?_) (T2.put g1 g2 (Rep.mono s2 _ _ r1))⟩
       rw [ak hn]
       exact s2 _ _ (s1 _ _ h)
     · cases hf
   · cases hf
 · cases hf⟩
theorem fds_one {st : Stmt} {f : FnD} (h : il X i st f) : FDs X i [st] f := ⟨fJ h.h⟩
theorem SqT.offD {K : PySem.W.Frag} {a b : Addr} {H H' : Hp} {xs : List V} {kvs : List (Key × V)} (k : Off a H H') (ha : H a = some (.dK kvs)) (h : H b = some (.tup xs)) : H' b = some (.tup xs) :=
 k b _ (fun z => by rw [z, ha] at h; cases h) h
theorem wb {y : Str} {py : Pos} {iter : Expr} {body : List Stmt} {src : FnE} {fb : FnD} (j : Nat) (hij : j ≠ i) (hp : PassesOwn (model X.prog X.w) X.A X.env X.xe) (hc : X.calm = true) (hi : FE X iter src) (hg : PG X (.Name y py) (j8 j)) (hb : FDs X i body fb)
 (hs : ∀ x, foldedSetIterable iter X.env x = pure x := by intro _; kernel_rfl) : il X i (.For (.Name y py) iter body [] pos) (dFor j src fb) := ⟨fun pins s σ H D I ⟨a, ρ, kv, T, ρ', kv', hf, q⟩ => by
 refine jl hp hc (tX hi.h) hg hb.h hs pins s σ H D I ⟨ρ, T.env, ?_⟩
 unfold dFor at hf
 split at hf
 · rename_i ds hd
   rw [hd]
   intro v H1 s1 r1
   obtain ⟨b, xs, rfl, h1, h2⟩ := r1.tupE
   refine ⟨b, rfl, ⟨xs, SqT.of h1⟩, ?_⟩
   have T1' := T.mono s1
   have hlen : ds.length = xs.length := by
    have := h2.length
    omega
   refine ⟨fun n m σ' H' => m = ds.length - n ∧ n ≤ ds.length ∧ Off a H1 H' ∧ H' b = some (.tup xs) ∧ Reps X.K H' ds xs ∧ ∃ ρ1 kv1, T1 X i a H' σ' ρ1 kv1 ∧ loopD j fb (ds.drop n) ρ1 kv1 = some (ρ', kv'), ⟨ds.length, by simp, Nat.zero_le _, Off.refl a H1, h1, h2, ρ, kv, T1', by simpa using hf⟩, ?_⟩
   rintro n m σ' H' ⟨rfl, hn, of1, hb', hr', ρ1, kv1, Tn, hlo⟩
   by_cases hlt : n < ds.length
   · have hx : xs[n]? = some xs[n] := List.getElem?_eq_getElem (by omega)
     have hdn : ds[n]? = some ds[n] := List.getElem?_eq_getElem hlt
     refine .inr ⟨⟨xs, xs[n], SqT.of hb', hx⟩, fun σ2 H2 => Off a H1 H2 ∧ H2 b = some (.tup xs) ∧ Reps X.K H2 ds xs ∧ ∃ ρ2 kv2, T1 X i a H2 σ2 ρ2 kv2 ∧ loopD j fb (ds.drop (n + 1)) ρ2 kv2 = some (ρ', kv'), fun σ2 H2 z => ⟨ds.length - (n + 1), by omega, rfl, hlt, z⟩, fun x H2 yl => ?_⟩
     obtain ⟨rfl, hyl⟩ := yl
     have ex := hyl xs (SqT.of hb')
     rw [hx] at ex
     cases ex
     have rd : Rep X.K H2 ds[n] xs[n] := FD.reps_at hr' n _ _ hdn hx
     rw [bM hdn] at hlo
     unfold loopD at hlo
     split at hlo
     · rename_i ρ2 kv2 hbd
       refine ⟨a, _, kv1, Tn.set hij rd, ρ2, kv2, hbd, fun σ3 H3 of3 T3 => ⟨of1.trans of3, ?_, ?_, ρ2, kv2, T3, hlo⟩⟩
       · obtain ⟨kvs, g1, _⟩ := Tn.dct
         exact SqT.offD (K := X.K) of3 g1 hb'
       · obtain ⟨kvs, g1, _⟩ := Tn.dct
         exact Reps.off (fun c u hn h => of3 c u (fun z => by rw [z, g1] at h; cases h; exact hn _ rfl) h) _ _ hr'
     · cases hlo
   · have hn' : n = ds.length := by omega
     subst hn'
     rw [List.drop_length] at hlo
     cases hlo
     exact .inl ⟨⟨xs, SqT.of hb', by omega⟩, q σ' H' ((Off.of s1).trans of1) Tn⟩
 · cases hf⟩
def tR (X : Cx) (i : Nat) (r : Ev → Kv → Option Fl) : TS := fun D σ H => ∃ a ρ kv H0, T1 X i a H σ ρ kv ∧ Same H0 H ∧ H0 a = none ∧ OutS X H0 (r ρ kv) D
structure FR (X : Cx) (i : Nat) (sts : List Stmt) (r : Ev → Kv → Option Fl) : Prop where
 h : PSs X sts (tR X i r)
end
end DK
namespace DK
open PySem PySem.Spec PyProof.Rows L2
def dNil : FnD := fun ρ kv => some (ρ, kv)
def dSeq (f g : FnD) : FnD := fun ρ kv => match f ρ kv with
 | some (ρ', kv') => g ρ' kv'
 | none => none
def dIf (c : FnB) (f g : FnD) : FnD := fun ρ kv => match c ρ with
 | some (.ok true) => f ρ kv
 | some (.ok false) => g ρ kv
 | _ => none
def dSet (j : Nat) (f : FnE) : FnD := fun ρ kv => match f ρ with
 | some (.ok d) => some (ρ.set j (some d), kv)
 | _ => none
def runD (m : Nat) (fb : FnD) : List Dv → Kv → Option Kv := fun ds kv => match fb (none :: (ds.map some ++ List.replicate (m - ds.length) none)) kv with
 | some (_, kv') => some kv'
 | none => none
def spD (K : PySem.W.Frag) (F : List Dv → Kv → Option Kv) (n : Nat) : Sp := fun vs H Q _ => ∃ a us ds kv kvs, vs = .ref a :: us ∧ Reps K H ds us ∧ ds.length = n ∧ H a = some (.dK kvs) ∧ KD K H kv kvs ∧ match F ds kv with
 | some kv' => ∀ H', Off a H H' → (∃ kvs', H' a = some (.dK kvs') ∧ KD K H' kv' kvs') → Q .non H'
 | none => False
def dCall (F : List Dv → Kv → Option Kv) (f : FnE) : FnD := fun ρ kv => match f ρ with
 | some (.ok d) => (match F [d] kv with
  | some kv' => some (ρ, kv')
  | none => none)
 | _ => none
section
variable {X : Cx} {i : Nat} {c e : Expr} {gc : FnB} {fe : FnE} {f g : FnD} {pos : Pos} {st : Stmt} {sts as bs : List Stmt}
theorem fds_nil : FDs X i [] dNil := ⟨fun pins s σ H D I ⟨a, ρ, kv, T, ρ', kv', hf, q⟩ => by
 cases hf
 exact iu pins s σ H D I (q σ H (Off.refl a H) T)⟩
theorem fds_cons (h1 : il X i st f) (h2 : FDs X i sts g) : FDs X i (st :: sts) (dSeq f g) := ⟨fun pins s σ H D I ⟨a, ρ, kv, T, ρ', kv', hf, q⟩ => by
 unfold dSeq at hf
 split at hf
 · rename_i ρ1 kv1 e1
   exact bV h1.h h2.h pins s σ H D I ⟨a, ρ, kv, T, ρ1, kv1, e1, fun σ1 H1 of1 T1' => ⟨a, ρ1, kv1, T1', ρ', kv', hf, fun σ2 H2 of2 T2 => q σ2 H2 (of1.trans of2) T2⟩⟩
 · cases hf⟩
theorem fd_if (hc : FT X c gc) (ha : FDs X i as f) (hb : FDs X i bs g) : il X i (.If c as bs pos) (dIf gc f g) := ⟨fun pins s σ H D I ⟨a, ρ, kv, T, ρ', kv', hf, q⟩ => by
 refine qC hc.h ha.h hb.h pins s σ H D I ⟨ρ, T.env, ?_⟩
 unfold dIf at hf
 split at hf
 · rename_i e1
   rw [e1]
   exact fun H1 s1 => nq ⟨a, ρ, kv, T.mono s1, ρ', kv', hf, fun σ2 H2 of2 T2 => q σ2 H2 ((Off.of s1).trans of2) T2⟩
 · rename_i e1
   rw [e1]
   exact fun H1 s1 => nn ⟨a, ρ, kv, T.mono s1, ρ', kv', hf, fun σ2 H2 of2 T2 => q σ2 H2 ((Off.of s1).trans of2) T2⟩
 · cases hf⟩
theorem wc (j : Nat) {x : Str} {pos' : Pos} (hj : j ≠ i) (hN : X.N.Nodup) (hi : X.N[j]? = some x) (hx : Loc X.env.scope x) (he : FE X e fe) (hs : swapsWith e (some (.Name x pos')) pos.line X.env = pure false := by kernel_rfl) (hf : X.fn x = true ∨ X.env.scope.names.lookup x = some .local := by first | exact .inl rfl | exact .inr rfl | assumption) :
 il X i (.Assign [.Name x pos'] e pos) (dSet j fe) := ⟨fun pins s σ H D I ⟨a, ρ, kv, T, ρ', kv', hq, q⟩ => by
 refine eW hN hi hx he.h hs hf pins s σ H D I ⟨ρ, T.env, ?_⟩
 unfold dSet at hq
 split at hq
 · rename_i d e1
   cases hq
   rw [e1]
   exact fun v H1 s1 r1 => q _ H1 (Off.of s1) ((T.mono s1).set hj r1)
 · cases hq⟩
theorem T1.off {a : Addr} {H H' : Hp} {σ : L2.St} {ρ : Ev} {kv kv' : Kv} (T : T1 X i a H σ ρ kv) (of : Off a H H') (h : ∃ kvs, H' a = some (.dK kvs) ∧ KD X.K H' kv' kvs) : T1 X i a H' σ ρ kv' := by
 obtain ⟨kvs, g1, _⟩ := T.dct
 refine ⟨T.ia, T.no, ⟨T.env.len, fun j d hj => ?_⟩, h⟩
 obtain ⟨v, q1, q2⟩ := T.env.at' j d hj
 exact ⟨v, q1, Rep.off (fun b u hn hb => of b u (fun z => by rw [z, g1] at hb; cases hb; exact hn _ rfl) hb) _ _ q2⟩
theorem si {x fx : Str} {xp p cpos : Pos} {k' : Nat} (k : Nat) (F : List Dv → Kv → Option Kv) {f : Addr} {fd : FuncData} {ps : List Str} (G : FnOk X.prog X.w X.K X.mg X.base CX0 k f fd ps (spD X.K F 1)) (hm : X.mg fx = some (.ref f)) (hkp : PySem.W.keepIn X.K (.ref f) = true) (hb : Binds X.K fd ps []) (hr : Room k' X.A) (hk : k ≤ k') (hg : Gl X fx)
 (hx : PE X (.Name x xp) (pA i)) (he : FE X e fe) (hdb : (fx == ("__debug__" : Str)) = false := by kernel_rfl)
 (h1 : starEach [.Name x xp, e] X.env = (false, eval (.Name x xp) X.env) :: starEach [e] X.env := by kernel_rfl) (h2 : starEach [e] X.env = (false, eval e X.env) :: starEach [] X.env := by kernel_rfl) (hpl : (backTo cpos (starEach [e] X.env)).any (·.1) = false := by kernel_rfl) (hs : swapsWith (.Call (.Name fx p) [.Name x xp, e] [] cpos) none pos.line X.env = pure false := by kernel_rfl) :
 il X i (.Expr (.Call (.Name fx p) [.Name x xp, e] [] cpos) pos) (dCall F fe) := ⟨fun pins s σ H D I ⟨a, ρ, kv, T, ρ', kv', hq, q⟩ => by
 unfold dCall at hq
 split at hq
 · rename_i d e1
   split at hq
   · rename_i kv1 hF
     cases hq
     refine qB (iz (G.mono hk) hr hg hm hkp hb .nil uo (bH hx (bH he.h eY h2) h1) hdb h1 hpl) hs pins s σ H D I ⟨.ref a, T.ia, ρ, T.env, ?_⟩
     rw [e1]
     intro v H1 s1 r1
     have T2 := T.mono s1
     obtain ⟨kvs, g1, g2⟩ := T2.dct
     refine ⟨a, [v], [d], kv, kvs, rfl, ⟨v, [], rfl, r1, rfl⟩, rfl, g1, g2, ?_⟩
     rw [hF]
     exact fun H' of z => q σ H' ((Off.of s1).trans of) (T2.off of z)
   · cases hq
 · cases hq⟩
end
theorem mK {K : PySem.W.Frag} {H : Hp} {σ : L2.St} {ρ : Ev} (x : Option V) (E : Envs K H σ ρ) : Envs K H (x :: σ) (none :: ρ) :=
 ⟨by rw [List.length_cons, List.length_cons, E.len], fun j d hj => by
  cases j with
  | zero => cases hj
  | succ j => exact E.at' j d hj⟩
theorem wd {k : Nat} {f : Addr} {fd : FuncData} {x x0 : Str} {P : Program} {w : World} {K : PySem.W.Frag} {mg : Str → Option Value} {base : Heap} {qual : Str} {st : Stmt} {N ps : List Str} {p0 : Str} {fb : FnD} (Fn : Fun K x qual st f fd) (S : bX (x0 :: N) (p0 :: ps) (ah st))
 (hb : ∀ (cdv : Value) (A : Around) (outer : List Env) (s : Shared) (H : Hp) (E : XK), Room k (A.deeper (envOfC qual (ah st) s.heap.objs.size f cdv)) → FDs (ik CX0 P w K mg base (x0 :: N) qual (ah st) f cdv A outer s H E).nox 0 (aN st) fb) :
 FnOk P w K mg base CX0 (k + 1) f fd (p0 :: ps) (spD K (runD N.length fb) ps.length) := by
 refine Fn.ok S (fun vs H Q E h => ?_) (fun cdv A outer s H vs Q E hr h => ?_)
 · obtain ⟨a, us, ds, kv, kvs, rfl, r, hl, _⟩ := h
   rw [List.length_cons, List.length_cons, r.length, hl]
 · obtain ⟨a, us, ds, kv, kvs, rfl, r, hl, g1, g2, q⟩ := h
   refine ⟨_, (hb cdv A outer s H E hr).h, a, none :: (ds.map some ++ List.replicate (N.length - ds.length) none), kv, ?_⟩
   have e0 : L2.start (x0 :: N) (.ref a :: us) = some (.ref a) :: L2.start N us := by
    unfold L2.start
    rw [List.map_cons, List.cons_append, List.length_cons, List.length_cons, Nat.succ_sub_succ]
   rw [e0]
   refine ⟨⟨rfl, (fun d z => by cases z), mK _ (cy r), kvs, g1, g2⟩, ?_⟩
   unfold runD at q
   split at q
   · rename_i kv1 h1
     split at h1
     · rename_i ρ2 kv2 h2
       cases h1
       exact ⟨ρ2, kv1, h2, fun σ' H' of T' => q H' of T'.dct⟩
     · cases h1
   · exact q.elim
end DK
namespace DK
open PySem PySem.Spec PyProof.Rows L2
def vGet1 (fk : FnE) : FnV := fun ρ kv => match fk ρ with
 | some (.ok k) => (match xt k with
  | some k => some ((valD kv k).getD .non)
  | none => none)
 | _ => none
def vIdx (fk : FnE) : FnV := fun ρ kv => match fk ρ with
 | some (.ok k) => (match xt k with
  | some k => valD kv k
  | none => none)
 | _ => none
abbrev sj := Ev → Kv → Option (List Dv)
def vaNil : sj := fun _ _ => some []
def vaCons (g : FnV) (r : sj) : sj := fun ρ kv => match g ρ kv, r ρ kv with
 | some d, some ds => some (d :: ds)
 | _, _ => none
def vTup (g : sj) : FnV := fun ρ kv => match g ρ kv with
 | some ds => if ds.length ≤ 100000 then some (.tup ds) else none
 | none => none
def v2 (op : Dv → Dv → Option (Rs Dv)) (f g : FnV) : FnV := fun ρ kv => match f ρ kv, g ρ kv with
 | some x, some y => (match op x y with
  | some (.ok d) => some d
  | _ => none)
 | _, _ => none
def tVA (X : Cx) (i : Nat) (g : sj) : TA := fun σ H Q => ∃ a ρ kv, T1 X i a H σ ρ kv ∧ ∃ ds, g ρ kv = some ds ∧ ∀ vs H', Same H H' → Reps X.K H' ds vs → Q vs H'
structure FVA (X : Cx) (i : Nat) (es : List Expr) (g : sj) : Prop where
 h : PA X es (tVA X i g)
section
variable {X : Cx} {i : Nat} {e ke a b : Expr} {es : List Expr} {fk fe : FnE} {f g : FnV} {ga : sj} {pos : Pos}
theorem sk {x : Str} {xp apos cpos : Pos} (hu : X.A.units + 1 < cLine) (hx : PE X (.Name x xp) (pA i)) (hk : FE X ke fk) (m : M1 X (.Name x xp) "get" apos ke cpos) :
 FV X i (.Call (.Attribute (.Name x xp) "get" apos) [ke] [] cpos) (vGet1 fk) := ⟨fun pins s σ H Q I ⟨a, ρ, kv, T, d, hg, q⟩ => by
 refine oZ hu hx hk.h m pins s σ H Q I ⟨.ref a, T.ia, a, rfl, ?_⟩
 obtain ⟨kvs, h1, h2⟩ := T.dct
 refine ⟨.inl ⟨kvs, .inl h1⟩, ρ, T.env, ?_⟩
 unfold vGet1 at hg
 split at hg
 · rename_i k0 e1
   split at hg
   · rename_i k ek
     cases hg
     rw [e1]
     intro vk H1 s1 rk
     cases iP ek rk
     have T2 := T.mono s1
     obtain ⟨kvs2, g1, g2⟩ := T2.dct
     refine ⟨gy kvs2 (kS k), DGet.k g1, q _ H1 s1 ?_⟩
     have hv := g2.val k
     cases hq : valD kv k with
     | none => rw [hq] at hv; rw [hv]; exact rfl
     | some d1 =>
      rw [hq] at hv
      obtain ⟨v1, e3, r3⟩ := hv
      rw [e3]
      exact r3
   · cases hg
 · cases hg⟩
theorem we {x : Str} {xp : Pos} (hu : X.A.units + 1 < cLine) (hx : PE X (.Name x xp) (pA i)) (hk : FE X ke fk) (hs : xr ke) : FV X i (.Subscript (.Name x xp) ke pos) (vIdx fk) := ⟨fun pins s σ H Q I ⟨a, ρ, kv, T, d, hg, q⟩ => by
 refine se hu hx hk.h hs pins s σ H Q I ⟨.ref a, T.ia, ρ, T.env, ?_⟩
 unfold vIdx at hg
 split at hg
 · rename_i k0 e1
   split at hg
   · rename_i k ek
     rw [e1]
     intro vk H1 s1 rk
     cases iP ek rk
     have T2 := T.mono s1
     obtain ⟨kvs2, g1, g2⟩ := T2.dct
     have hv := g2.val k
     rw [hg] at hv
     obtain ⟨v1, e3, r3⟩ := hv
     have g3 := DGet.k (k := kS k) g1
     rw [e3] at g3
     exact ⟨a, v1, rfl, g3, q _ H1 s1 r3⟩
   · cases hg
 · cases hg⟩
theorem fva_nil : FVA X i [] vaNil := ⟨fun p pins s σ H Q I ⟨a, ρ, kv, T, ds, hg, q⟩ => by
 cases hg
 exact eY p pins s σ H Q I (q [] H (.refl H) rfl)⟩
theorem fva_cons (h1 : FV X i e g) (h2 : FVA X i es ga) (hs : starEach (e :: es) X.env = (false, eval e X.env) :: starEach es X.env := by kernel_rfl) : FVA X i (e :: es) (vaCons g ga) := ⟨fun p pins s σ H Q I ⟨a, ρ, kv, T, ds, hg, q⟩ => by
 unfold vaCons at hg
 split at hg
 · rename_i d ds' e1 e2
   cases hg
   exact bH h1.h h2.h hs p pins s σ H Q I ⟨a, ρ, kv, T, d, e1, fun v H1 s1 r1 => ⟨a, ρ, kv, T.mono s1, ds', e2, fun vs H2 s2 r2 => q _ H2 (s1.trans s2) ⟨v, vs, rfl, Rep.mono s2 _ _ r1, r2⟩⟩⟩
 · cases hg⟩
theorem fv_tup {x1} (h : FVA X i es ga) : FV X i (.Tuple es x1 pos) (vTup ga) := ⟨fun pins s σ H Q I ⟨a, ρ, kv, T, d, hg, q⟩ => by
 unfold vTup at hg
 split at hg
 · rename_i ds e1
   split at hg
   · rename_i hl
     cases hg
     refine pD h.h pins s σ H Q I ⟨a, ρ, kv, T, ds, e1, fun vs H1 s1 r1 => ⟨by rw [r1.length]; exact aI hl, fun p hp => ?_⟩⟩
     exact q _ _ (s1.trans (ao hp _)) ⟨p, vs, rfl, am, Reps.mono (ao hp _) _ _ r1⟩
   · cases hg
 · cases hg⟩
theorem yS {op : Operator} {r : R2} {o : Dv → Dv → Option (Rs Dv)} (ho : OpR X (binaryOp op) r) (hg : GOp X r o) (ha : FV X i a f) (hb : FV X i b g) : FV X i (.BinOp a op b pos) (v2 o f g) := ⟨fun pins s σ H Q I ⟨ad, ρ, kv, T, d, hd, q⟩ => by
 unfold v2 at hd
 split at hd
 · rename_i x y e1 e2
   split at hd
   · rename_i d' e3
     cases hd
     refine tY ho ha.h hb.h pins s σ H Q I ⟨ad, ρ, kv, T, x, e1, fun v1 H1 s1 r1 => ⟨ad, ρ, kv, T.mono s1, y, e2, fun v2 H2 s2 r2 => hg x y v1 v2 H2 Q (Rep.mono s2 _ _ r1) r2 ?_⟩⟩
     rw [e3]
     exact fun v H3 s3 r3 => q v H3 ((s1.trans s2).trans s3) r3
   · cases hd
 · cases hd⟩
def rSetR (j : Nat) (g : FnV) (r : Ev → Kv → Option Fl) : Ev → Kv → Option Fl := fun ρ kv => match g ρ kv with
 | some d => r (ρ.set j (some d)) kv
 | none => none
def rRet (g : FnV) : Ev → Kv → Option Fl := fun ρ kv => match g ρ kv with
 | some d => some (.rt d)
 | none => none
theorem sr {sts : List Stmt} {r : Ev → Kv → Option Fl} (j : Nat) (hij : j ≠ i) {y : Str} {pos' : Pos} (hN : X.N.Nodup) (hj : X.N[j]? = some y) (hy : Loc X.env.scope y) (he : FV X i e g) (hr : FR X i sts r) (hs : swapsWith e (some (.Name y pos')) pos.line X.env = pure false := by kernel_rfl) (hf : X.fn y = true ∨ X.env.scope.names.lookup y = some .local := by first | exact .inl rfl | exact .inr rfl | assumption) :
 FR X i (.Assign [.Name y pos'] e pos :: sts) (rSetR j g r) := ⟨fun pins s σ H D I ⟨a, ρ, kv, H0, T, sm, h0, o⟩ => by
 unfold rSetR at o
 split at o
 · rename_i d hd
   exact bV (eW hN hj hy he.h hs hf) hr.h pins s σ H D I ⟨a, ρ, kv, T, d, hd, fun v H' s1 r1 => ⟨a, _, kv, H0, (T.mono s1).set hij r1, sm.trans s1, h0, o⟩⟩
 · exact o.elim⟩
theorem fr_ret (he : FV X i e g) : FR X i [.Return (some e) pos] (rRet g) := ⟨fun pins s σ H D I ⟨a, ρ, kv, H0, T, sm, h0, o⟩ => by
 unfold rRet at o
 split at o
 · rename_i d hd
   exact fJ (kP he.h) pins s σ H D I ⟨a, ρ, kv, T, d, hd, fun v H' s1 r1 => o v H' (sm.trans s1) r1⟩
 · exact o.elim⟩
def fDict2 (i : Nat) (k1 v1 k2 v2 : FnE) (f : FnD) (rest : Ev → Kv → Option Fl) : FnS := fun ρ => match k1 ρ, v1 ρ, k2 ρ, v2 ρ with
 | some (.ok (.str a)), some (.ok x), some (.ok (.str b)), some (.ok y) => (match f (ρ.set i none) (putD (putD [] a x) b y) with
  | some (ρ1, kv1) => rest ρ1 kv1
  | none => none)
 | _, _, _, _ => none
theorem mL {x : Str} {xp dp : Pos} {s1 : Stmt} {sts : List Stmt} {ke1 ve1 ke2 ve2 : Expr} {k1 v1 k2 v2 : FnE} {f1 : FnD} {r : Ev → Kv → Option Fl} (hN : X.N.Nodup) (hi : X.N[i]? = some x) (hx : Loc X.env.scope x) (hk1 : FE X ke1 k1) (hv1 : FE X ve1 v1) (hk2 : FE X ke2 k2) (hv2 : FE X ve2 v2) (h1 : il X i s1 f1) (hr : FR X i sts r)
 (hs : swapsWith (.Dict [some ke1, some ke2] [ve1, ve2] dp) (some (.Name x xp)) pos.line X.env = pure false := by kernel_rfl) (hf : X.fn x = true ∨ X.env.scope.names.lookup x = some .local := by first | exact .inl rfl | exact .inr rfl | assumption) :
 FSs X (.Assign [.Name x xp] (.Dict [some ke1, some ke2] [ve1, ve2] dp) pos :: s1 :: sts) (fDict2 i k1 v1 k2 v2 f1 r) := ⟨fun pins s σ H D I ⟨ρ, E, o⟩ => by
 refine bV (eW (i := i) hN hi hx (sh (jS hk1.h hv1.h (jS hk2.h hv2.h sg)) rfl rfl (by simp) (by simp)) hs hf) (bV h1.h hr.h) pins s σ H D I fun p hp => ?_
 have hil : i < σ.length := by rw [I.len]; exact (List.getElem?_eq_some_iff.mp hi).1
 have s0 : Same H (upd H p (.dK [])) := ao hp _
 unfold fDict2 at o
 split at o
 · rename_i a x' b y' e1 e2 e3 e4
   split at o
   · rename_i ρ1 kv1 e5
     refine ⟨ρ, E.mono s0, ?_⟩
     rw [e1]
     intro w1 H1 t1 r1
     refine ⟨ρ, (E.mono s0).mono t1, ?_⟩
     rw [e2]
     intro w2 H2 t2 r2
     refine ⟨ρ, ((E.mono s0).mono t1).mono t2, ?_⟩
     rw [e3]
     intro w3 H3 t3 r3
     refine ⟨ρ, (((E.mono s0).mono t1).mono t2).mono t3, ?_⟩
     rw [e4]
     intro w4 H4 t4 r4
     have q4 : H4 p = some (.dK []) := t4 _ _ (t3 _ _ (t2 _ _ (t1 _ _ am)))
     cases (show w1 = .str a from r1)
     cases (show w3 = .str b from r3)
     refine ⟨q4, [(kS a, w2), (kS b, w4)], rfl, by simp, ?_⟩
     have E4 := ((((E.mono s0).mono t1).mono t2).mono t3).mono t4
     have k0 : ∀ (ob : HO) b u, NoD u → H4 b = some u → upd H4 p ob b = some u := fun ob b u hn q => by
      have hb : b ≠ p := fun z => by rw [z, q4] at q; cases q; exact hn _ rfl
      rw [ak hb]; exact q
     have hkd : KD X.K H4 (putD (putD [] a x') b y') (eE [] [(kS a, w2), (kS b, w4)]) := KD.put r4 (KD.put (Rep.mono t4 _ _ (Rep.mono t3 _ _ r2)) .nil)
     have T0 : T1 X i p (upd H4 p (.dK (eE [] [(kS a, w2), (kS b, w4)]))) (σ.set i (some (.ref p))) (ρ.set i none) (putD (putD [] a x') b y') := by
      refine ⟨List.getElem?_set_self hil, fun d => ?_, ⟨by rw [List.length_set, List.length_set]; exact E4.len, fun j d hj => ?_⟩, _, am, hkd.mono fun d v r => Rep.off (k0 _) d v r⟩
      · by_cases hl : i < ρ.length
        · rw [List.getElem?_set_self hl]; exact fun z => by cases z
        · rw [List.getElem?_eq_none (by rw [List.length_set]; omega)]; exact fun z => by cases z
      · have hij : i ≠ j := fun z => by
         subst z
         by_cases hl : i < ρ.length
         · rw [List.getElem?_set_self hl] at hj; cases hj
         · rw [List.getElem?_eq_none (by rw [List.length_set]; omega)] at hj; cases hj
        rw [List.getElem?_set_ne hij] at hj
        obtain ⟨v, q1, q2⟩ := E4.at' j d hj
        exact ⟨v, by rw [List.getElem?_set_ne hij]; exact q1, Rep.off (k0 _) _ _ q2⟩
     refine ⟨p, _, _, T0, ρ1, kv1, e5, fun σ1 H5 of1 T1' => ⟨p, ρ1, kv1, H, T1', fun b u hb => ?_, hp, o⟩⟩
     have hbp : b ≠ p := fun z => by rw [z, hp] at hb; cases hb
     refine of1 b u hbp ?_
     rw [ak hbp]
     exact t4 _ _ (t3 _ _ (t2 _ _ (t1 _ _ (s0 _ _ hb))))
   · exact o.elim
 · exact o.elim⟩
end
end DK
namespace DK
open PySem PySem.Spec PyProof.Rows L2 TS
def dForL (j : Nat) (src : FnE) (body : FnD) : FnD := fun ρ kv => match src ρ with
 | some (.ok (.lst ds)) => loopD j body ds ρ kv
 | _ => none
section
variable {X : Cx} {i : Nat} {pos : Pos}
theorem z5 {K : PySem.W.Frag} {a b : Addr} {H H' : Hp} {xs : List V} {kvs : List (Key × V)} (k : Off a H H') (ha : H a = some (.dK kvs)) (h : H b = some (.lst xs)) : H' b = some (.lst xs) :=
 k b _ (fun z => by rw [z, ha] at h; cases h) h
theorem ss {y : Str} {py : Pos} {iter : Expr} {body : List Stmt} {src : FnE} {fb : FnD} (j : Nat) (hij : j ≠ i) (hp : PassesOwn (model X.prog X.w) X.A X.env X.xe) (hc : X.calm = true) (hi : FE X iter src) (hg : PG X (.Name y py) (j8 j)) (hb : FDs X i body fb)
 (hs : ∀ x, foldedSetIterable iter X.env x = pure x := by intro _; kernel_rfl) : il X i (.For (.Name y py) iter body [] pos) (dForL j src fb) := ⟨fun pins s σ H D I ⟨a, ρ, kv, T, ρ', kv', hf, q⟩ => by
 refine jl hp hc (qE hi.h) hg hb.h hs pins s σ H D I ⟨ρ, T.env, ?_⟩
 unfold dForL at hf
 split at hf
 · rename_i ds hd
   rw [hd]
   intro v H1 s1 r1
   obtain ⟨b, xs, rfl, h1, h2⟩ := r1.lstE
   refine ⟨b, rfl, ⟨xs, SqL.of h1⟩, ?_⟩
   have T1' := T.mono s1
   have hlen : ds.length = xs.length := by
    have := h2.length
    omega
   refine ⟨fun n m σ' H' => m = ds.length - n ∧ n ≤ ds.length ∧ Off a H1 H' ∧ H' b = some (.lst xs) ∧ Reps X.K H' ds xs ∧ ∃ ρ1 kv1, T1 X i a H' σ' ρ1 kv1 ∧ loopD j fb (ds.drop n) ρ1 kv1 = some (ρ', kv'), ⟨ds.length, by simp, Nat.zero_le _, Off.refl a H1, h1, h2, ρ, kv, T1', by simpa using hf⟩, ?_⟩
   rintro n m σ' H' ⟨rfl, hn, of1, hb', hr', ρ1, kv1, Tn, hlo⟩
   by_cases hlt : n < ds.length
   · have hx : xs[n]? = some xs[n] := List.getElem?_eq_getElem (by omega)
     have hdn : ds[n]? = some ds[n] := List.getElem?_eq_getElem hlt
     refine .inr ⟨⟨xs, xs[n], SqL.of hb', hx⟩, fun σ2 H2 => Off a H1 H2 ∧ H2 b = some (.lst xs) ∧ Reps X.K H2 ds xs ∧ ∃ ρ2 kv2, T1 X i a H2 σ2 ρ2 kv2 ∧ loopD j fb (ds.drop (n + 1)) ρ2 kv2 = some (ρ', kv'), fun σ2 H2 z => ⟨ds.length - (n + 1), by omega, rfl, hlt, z⟩, fun x H2 yl => ?_⟩
     obtain ⟨rfl, hyl⟩ := yl
     have ex := hyl xs (SqL.of hb')
     rw [hx] at ex
     cases ex
     have rd : Rep X.K H2 ds[n] xs[n] := FD.reps_at hr' n _ _ hdn hx
     rw [bM hdn] at hlo
     unfold loopD at hlo
     split at hlo
     · rename_i ρ2 kv2 hbd
       refine ⟨a, _, kv1, Tn.set hij rd, ρ2, kv2, hbd, fun σ3 H3 of3 T3 => ⟨of1.trans of3, ?_, ?_, ρ2, kv2, T3, hlo⟩⟩
       · obtain ⟨kvs, g1, _⟩ := Tn.dct
         exact z5 (K := X.K) of3 g1 hb'
       · obtain ⟨kvs, g1, _⟩ := Tn.dct
         exact Reps.off (fun c u hn h => of3 c u (fun z => by rw [z, g1] at h; cases h; exact hn _ rfl) h) _ _ hr'
     · cases hlo
   · have hn' : n = ds.length := by omega
     subst hn'
     rw [List.drop_length] at hlo
     cases hlo
     exact .inl ⟨⟨xs, SqL.of hb', by omega⟩, q σ' H' ((Off.of s1).trans of1) Tn⟩
 · cases hf⟩
end
def xu (P : Program) (w : World) (K : PySem.W.Frag) (mg : Str → Option Value) (base : Heap) (x : Str) (k n : Nat) (F : List Dv → Kv → Option Kv) : Prop :=
 ∃ f fd ps, FnOk P w K mg base CX0 k f fd ps (spD K F n) ∧ mg x = some (.ref f) ∧ PySem.W.keepIn K (.ref f) = true ∧ Binds K fd ps []
theorem hasD_mk {K : PySem.W.Frag} {h base : Heap} {mg : Str → Option Value} {P : Program} {w : World} {x x0 p0 : Str} {st : Stmt} {f : Addr} {k : Nat} {F : List Dv → Kv → Option Kv} (XI : K.In h) (Gn : h.Ns mainGlobals mg) (N ps : List Str) (fb : FnD) (A : Af K x st f) (hbd : xq x st (p0 :: ps))
 (hb : ∀ (cdv : Value) (A : Around) (outer : List Env) (s : Shared) (H : Hp) (E : XK), Room k (A.deeper (envOfC x (ah st) s.heap.objs.size f cdv)) → FDs (ik CX0 P w K mg base (x0 :: N) x (ah st) f cdv A outer s H E).nox 0 (aN st) fb) (hF : F = runD N.length fb := by kernel_rfl) (hs : fnB (x0 :: N) (p0 :: ps) (ah st) = true := by kernel_rfl) : xu P w K mg base x (k + 1) ps.length F := by
 subst hF
 obtain ⟨_, Fn⟩ := A.F
 exact ⟨_, _, _, wd Fn (vX hs) hb, PySem.W.mg_of XI Gn A.a, A.k, Fn.binds hbd⟩
section
variable {X : Cx} {i j k' k : Nat} {x y fx : Str} {xp dp py pos pos' apos cpos p : Pos} {c e ke iter ke1 ve1 ke2 ve2 a b : Expr} {s1 : Stmt} {sts body as bs : List Stmt} {fk fe src k1 v1 k2 v2 : FnE} {g : FnV} {fb d1 : FnD} {r : Ev → Kv → Option Fl} {F : List Dv → Kv → Option Kv}
theorem o6 (h : xu X.prog X.w X.K X.mg X.base fx k 1 F) (hr : Room k' X.A) (he : FE X e fe) (hk : Nat.ble k k' = true := by kernel_rfl) (hg : X.env.kindOf fx = some .globalImplicit := by kernel_rfl) (hN : X.N[i]? = some x := by kernel_rfl) (hx : cO X.env.scope x = true := by kernel_rfl) (hd : (x == ("__debug__" : Str)) = false := by kernel_rfl) (hcd : (x == ("__classdict__" : Str)) = false := by kernel_rfl) (hdb : (fx == ("__debug__" : Str)) = false := by kernel_rfl)
 (h1 : starEach [.Name x xp, e] X.env = (false, eval (.Name x xp) X.env) :: starEach [e] X.env := by kernel_rfl) (h2 : starEach [e] X.env = (false, eval e X.env) :: starEach [] X.env := by kernel_rfl) (hpl : (backTo cpos (starEach [e] X.env)).any (·.1) = false := by kernel_rfl) (hs : swapsWith (.Call (.Name fx p) [.Name x xp, e] [] cpos) none pos.line X.env = pure false := by kernel_rfl) :
 il X i (.Expr (.Call (.Name fx p) [.Name x xp, e] [] cpos) pos) (dCall F fe) := by
 obtain ⟨f, fd, ps, G, hm, hkp, hb⟩ := h
 exact si k F G hm hkp hb hr (Nat.le_of_ble_eq_true hk) hg (eD hN hx hd hcd) he hdb h1 h2 hpl hs
theorem fd_forA (hp : PassesOwn (model X.prog X.w) X.A X.env X.xe) (hi : FE X iter src) (hb : FDs X i body fb) (hij : Nat.beq j i = false := by kernel_rfl) (hc : X.calm = true := by kernel_rfl) (hN : ndB X.N = true := by kernel_rfl) (hx : X.N[j]? = some y := by kernel_rfl) (hl : cO X.env.scope y = true := by kernel_rfl) (hf : X.fn y = true := by kernel_rfl)
 (hs : ∀ x, foldedSetIterable iter X.env x = pure x := by intro _; kernel_rfl) : il X i (.For (.Name y py) iter body [] pos) (dFor j src fb) :=
 wb j (Nat.ne_of_beq_eq_false hij) hp hc hi (bW (b4 hN) hx (bz hl) (.inl hf)) hb hs
theorem fd_forLA (hp : PassesOwn (model X.prog X.w) X.A X.env X.xe) (hi : FE X iter src) (hb : FDs X i body fb) (hij : Nat.beq j i = false := by kernel_rfl) (hc : X.calm = true := by kernel_rfl) (hN : ndB X.N = true := by kernel_rfl) (hx : X.N[j]? = some y := by kernel_rfl) (hl : cO X.env.scope y = true := by kernel_rfl) (hf : X.fn y = true := by kernel_rfl)
 (hs : ∀ x, foldedSetIterable iter X.env x = pure x := by intro _; kernel_rfl) : il X i (.For (.Name y py) iter body [] pos) (dForL j src fb) :=
 ss j (Nat.ne_of_beq_eq_false hij) hp hc hi (bW (b4 hN) hx (bz hl) (.inl hf)) hb hs
theorem fd_putA (hu : X.A.units + 64 < cLine) (hk : FE X ke fk) (hv : FV X i e g) (hN : X.N[i]? = some x := by kernel_rfl) (hx : cO X.env.scope x = true := by kernel_rfl) (hd : (x == ("__debug__" : Str)) = false := by kernel_rfl) (hcd : (x == ("__classdict__" : Str)) = false := by kernel_rfl) (hs : swapsWith e (some (.Subscript (.Name x xp) ke pos')) pos.line X.env = pure false := by kernel_rfl) :
 il X i (.Assign [.Subscript (.Name x xp) ke pos'] e pos) (dPut fk g) := wa (by omega) (eD hN hx hd hcd) hk hv hs
theorem fd_setA (he : FE X e fe) (hij : Nat.beq j i = false := by kernel_rfl) (hN : ndB X.N = true := by kernel_rfl) (hj : X.N[j]? = some y := by kernel_rfl) (hy : cO X.env.scope y = true := by kernel_rfl) (hf : X.fn y = true := by kernel_rfl) (hs : swapsWith e (some (.Name y pos')) pos.line X.env = pure false := by kernel_rfl) : il X i (.Assign [.Name y pos'] e pos) (dSet j fe) :=
 wc j (Nat.ne_of_beq_eq_false hij) (b4 hN) hj (bz hy) he hs (.inl hf)
theorem fv_get1A (hu : X.A.units + 64 < cLine) (hk : FE X ke fk) (hN : X.N[i]? = some x := by kernel_rfl) (hx : cO X.env.scope x = true := by kernel_rfl) (hdb : (x == ("__debug__" : Str)) = false := by kernel_rfl) (hcd : (x == ("__classdict__" : Str)) = false := by kernel_rfl) (m : M1 X (.Name x xp) "get" apos ke cpos := by exact ⟨by kernel_rfl, by kernel_rfl, by kernel_rfl, by kernel_rfl⟩) :
 FV X i (.Call (.Attribute (.Name x xp) "get" apos) [ke] [] cpos) (vGet1 fk) := sk (by omega) (eD hN hx hdb hcd) hk m
theorem fv_idxA (hu : X.A.units + 64 < cLine) (hk : FE X ke fk) (hs : xr ke := by intro _ _; rfl) (hN : X.N[i]? = some x := by kernel_rfl) (hx : cO X.env.scope x = true := by kernel_rfl) (hdb : (x == ("__debug__" : Str)) = false := by kernel_rfl) (hcd : (x == ("__classdict__" : Str)) = false := by kernel_rfl) :
 FV X i (.Subscript (.Name x xp) ke pos) (vIdx fk) := we (by omega) (eD hN hx hdb hcd) hk hs
theorem fr_setRA (he : FV X i e g) (hr : FR X i sts r) (hij : Nat.beq j i = false := by kernel_rfl) (hN : ndB X.N = true := by kernel_rfl) (hj : X.N[j]? = some y := by kernel_rfl) (hy : cO X.env.scope y = true := by kernel_rfl) (hf : X.fn y = true := by kernel_rfl) (hs : swapsWith e (some (.Name y pos')) pos.line X.env = pure false := by kernel_rfl) :
 FR X i (.Assign [.Name y pos'] e pos :: sts) (rSetR j g r) := sr j (Nat.ne_of_beq_eq_false hij) (b4 hN) hj (bz hy) he hr hs (.inl hf)
theorem fss_dict2A (hk1 : FE X ke1 k1) (hv1 : FE X ve1 v1) (hk2 : FE X ke2 k2) (hv2 : FE X ve2 v2) (h1 : il X i s1 d1) (hr : FR X i sts r) (hN : ndB X.N = true := by kernel_rfl) (hi : X.N[i]? = some x := by kernel_rfl) (hx : cO X.env.scope x = true := by kernel_rfl) (hf : X.fn x = true := by kernel_rfl)
 (hs : swapsWith (.Dict [some ke1, some ke2] [ve1, ve2] dp) (some (.Name x xp)) pos.line X.env = pure false := by kernel_rfl) : FSs X (.Assign [.Name x xp] (.Dict [some ke1, some ke2] [ve1, ve2] dp) pos :: s1 :: sts) (fDict2 i k1 v1 k2 v2 d1 r) := mL (b4 hN) hi (bz hx) hk1 hv1 hk2 hv2 h1 hr hs (.inl hf)
theorem fv_addT {f g : FnV} (ha : FV X i a f) (hb : FV X i b g) : FV X i (.BinOp a .Add b pos) (DK.v2 bn f g) := yS p4 p5 ha hb
end
end DK
namespace DK
open PySem PySem.Spec PyProof.Rows L2 TS
abbrev DTab := List (Str × Nat × (List Dv → Kv → Option Kv))
structure HAD (P : Program) (w : World) (K : PySem.W.Frag) (mg : Str → Option Value) (base : Heap) (T : DTab) : Prop where
 h : ∀ x q, T.lookup x = some q → xu P w K mg base x q.1 1 q.2
section
variable {P : Program} {w : World} {K : PySem.W.Frag} {mg : Str → Option Value} {base : Heap} {T : DTab} {x : Str} {k : Nat} {F : List Dv → Kv → Option Kv}
theorem had_nil : HAD P w K mg base [] := ⟨fun _ _ h => by cases h⟩
theorem had_cons (h : xu P w K mg base x k 1 F) (t : HAD P w K mg base T) : HAD P w K mg base ((x, k, F) :: T) := ⟨fun y q hq => by
 rw [List.lookup_cons] at hq
 split at hq
 · rename_i e
   have e := eq_of_beq e
   subst e
   cases hq
   exact h
 · exact t.h y q hq⟩
end
section
variable {X : Cx} {T : DTab} {i k' : Nat} {x fx : Str} {xp pos cpos p : Pos} {e : Expr} {fe : FnE} {F : List Dv → Kv → Option Kv}
theorem fd_callT (hT : HAD X.prog X.w X.K X.mg X.base T) (hr : Room k' X.A) (hF : (T.lookup fx).map (·.2) = some F) (he : FE X e fe) (hk : ((T.lookup fx).all fun q => Nat.ble q.1 k') = true := by kernel_rfl) (hg : X.env.kindOf fx = some .globalImplicit := by kernel_rfl) (hN : X.N[i]? = some x := by kernel_rfl) (hx : cO X.env.scope x = true := by kernel_rfl) (hd : (x == ("__debug__" : Str)) = false := by kernel_rfl) (hcd : (x == ("__classdict__" : Str)) = false := by kernel_rfl) (hdb : (fx == ("__debug__" : Str)) = false := by kernel_rfl)
 (h1 : starEach [.Name x xp, e] X.env = (false, eval (.Name x xp) X.env) :: starEach [e] X.env := by kernel_rfl) (h2 : starEach [e] X.env = (false, eval e X.env) :: starEach [] X.env := by kernel_rfl) (hpl : (backTo cpos (starEach [e] X.env)).any (·.1) = false := by kernel_rfl) (hs : swapsWith (.Call (.Name fx p) [.Name x xp, e] [] cpos) none pos.line X.env = pure false := by kernel_rfl) :
 il X i (.Expr (.Call (.Name fx p) [.Name x xp, e] [] cpos) pos) (dCall F fe) := by
 cases hq : T.lookup fx with
 | none => rw [hq] at hF; cases hF
 | some q =>
  rw [hq] at hF hk
  cases hF
  exact o6 (hT.h fx q hq) hr he hk hg hN hx hd hcd hdb h1 h2 hpl hs
end
end DK
end FD
namespace FD
open PySem PySem.Spec PyProof.Rows L2 PySem.W
section
variable {X : Cx} {ex hx : Expr} {f g : FnE} {J : Str} {CJ : Addr} {np rp rp2 hpos pos : Pos}
end
end FD
namespace FD
open PySem PySem.Spec PyProof.Rows L2
theorem FE.weak {X : Cx} {e : Expr} {f f' : FnE} (h : FE X e f) (hw : ∀ ρ, f' ρ = none ∨ f' ρ = f ρ) : FE X e f' := ⟨fun pins s σ H Q I ⟨ρ, E, o⟩ => h.h pins s σ H Q I ⟨ρ, E, by
 rcases hw ρ with z | z
 · rw [z] at o; exact o.elim
 · rw [z] at o; exact o⟩⟩
theorem eF {i : Nat} {js : List Nat} {body : FnS} {ρ : Ev} : ∀ {ds : List Dv}, (∀ d ∈ ds, ∃ ρ', body (ρ.set i (some d)) = some (.nx ρ') ∧ fgt js ρ' = ρ) → ∀ ρ0, fgt js ρ0 = ρ → cV i js body ds ρ0 = some (.nx ρ)
 | [], _, ρ0, e => by unfold cV; rw [e]
 | d :: ds, h, ρ0, e => by
  obtain ⟨ρ', h1, h2⟩ := h d List.mem_cons_self
  unfold cV
  rw [e, h1]
  exact eF (fun d' hd => h d' (List.mem_cons_of_mem _ hd)) ρ' h2
theorem yT {c : FnB} {f g : FnS} {ρ : Ev} (h : c ρ = some (.ok false)) : bL c f g ρ = g ρ := by
 unfold bL; rw [h]; rfl
theorem wf {c : FnB} {f g : FnS} {ρ : Ev} (h : c ρ = some (.ok true)) : bL c f g ρ = f ρ := by
 unfold bL; rw [h]; rfl
end FD
namespace G
open PySem PySem.Spec PyProof.Rows L2 FD
def top (i : Nat) : Stmt := PySem.Challenge.pw_notejar_k31_read_given.main.body.getD i (.Pass ⟨0, 0, 0, 0⟩)
section
variable {X : Cx} {a b c o e : Expr} {es : List Expr} {fa fb fc fo : FnE} {ga : FnA} {pos p pt apos cpos : Pos}
theorem wg (ha : FE X a fa) (hb : FE X b fb) : FE X (.BinOp a .Add b pos) (f2 cJ fa fb) := kj o_add uH ha hb
theorem wj (ha : FE X a fa) (hb : FE X b fb) : FE X (.BinOp a .Add b pos) (f2 bn fa fb) := kj p4 p5 ha hb
theorem wm (ha : FE X a fa) (hb : FE X b fb) : FE X (.BinOp a .Mult b pos) (f2 dh fa fb) := kj pC uI ha hb
theorem wn (ha : FE X a fa) (hb : FE X b fb) : FE X (.BinOp a .Mod b pos) (f2 cK fa fb) := kj tZ ya ha hb
theorem su (ha : FE X a fa) (hb : FE X b fb) : FE X (.BinOp a .FloorDiv b pos) (f2 cX fa fb) := kj qF uJ ha hb
theorem wo (ha : FE X a fa) (hb : FE X b fb) : FE X (.BinOp a .Mult b pos) (f2 vp fa fb) := kj vq vt ha hb
theorem wq (hu : X.A.units + 64 < cLine) (ha : FE X a fa) (hb : FE X b fb) (hm : behindInMarks .Eq b = false := by kernel_rfl) : FT X (.Compare a [.Eq] [b] pos) (fB (f2 eqX fa fb)) := bK (uT hu) uU ha hb hm
theorem wt (hu : X.A.units + 64 < cLine) (ha : FE X a fa) (hb : FE X b fb) (hm : behindInMarks .NotEq b = false := by kernel_rfl) : FT X (.Compare a [.NotEq] [b] pos) (fB (f2 neX fa fb)) := bK (qY hu) qZ ha hb hm
theorem wu (ha : FE X a fa) (hb : FE X b fb) (hm : behindInMarks .Lt b = false := by kernel_rfl) : FT X (.Compare a [.Lt] [b] pos) (fB (f2 ltX fa fb)) := bK yk ym ha hb hm
theorem wv (ha : FE X a fa) (hb : FE X b fb) (hm : behindInMarks .Gt b = false := by kernel_rfl) : FT X (.Compare a [.Gt] [b] pos) (fB (f2 gtD fa fb)) := bK ub (uL _) ha hb hm
theorem sv (ha : FE X a fa) (hb : FE X b fb) (hm : behindInMarks .IsNot b = false := by kernel_rfl) : FT X (.Compare a [.IsNot] [b] pos) (fB (f2 pP fa fb)) := bK qG uM ha hb hm
theorem sw (hu : X.A.units < cLine) (ha : FE X a fa) (hb : FE X b fb) (hm : behindInMarks .Eq b = false := by kernel_rfl) : FT X (.Compare a [.Eq] [b] pos) (fB (f2 xg fa fb)) := bK (yi hu) yj ha hb hm
theorem ww (ha : FE X a fa) (hb : FE X b fb) (hm : behindInMarks .In b = false := by kernel_rfl) : FT X (.Compare a [.In] [b] pos) (fB (f2 inD fa fb)) := bK o_in ye ha hb hm
theorem mM (ha : FE X a fa) (hb : FE X b fb) (hm : behindInMarks .NotIn b = false := by kernel_rfl) : FT X (.Compare a [.NotIn] [b] pos) (fB (f2 bE fa fb)) := bK ls lu ha hb hm
theorem wx (hu : X.A.units + 64 < cLine) (ha : FE X a fa) (hb : FE X b fb) (hm : behindInMarks .In b = false := by kernel_rfl) : FT X (.Compare a [.In] [b] pos) (fB (f2 inX fa fb)) := bK (vx hu) vy ha hb hm
theorem mO (ha : FE X a fa) (hb : FE X b fb) (hc : FE X c fc) (hm : lastMarks [.LtE, .LtE] [b, c] = false := by kernel_rfl) : FT X (.Compare a [.LtE, .LtE] [b, c] pos) (fB (fg leX leX fa fb fc)) := jE lR lS lR lS ha hb hc hm
theorem wy (hu : X.A.units + 64 < cLine) (ha : FE X a fa) (hb : FE X b fb) (hm : behindInMarks .Eq b = false := by kernel_rfl) : FE X (.Compare a [.Eq] [b] pos) (f2 eqX fa fb) := jr (uT hu) uU ha hb hm
theorem wz (ha : FE X a fa) (hb : FE X b fb) (hm : behindInMarks .LtE b = false := by kernel_rfl) : FE X (.Compare a [.LtE] [b] pos) (f2 leX fa fb) := jr lR lS ha hb hm
theorem wD (ha : FE X a fa) (hb : FE X b fb) (hm : behindInMarks .In b = false := by kernel_rfl) : FE X (.Compare a [.In] [b] pos) (f2 inD fa fb) := jr o_in ye ha hb hm
theorem mP (ha : FE X a fa) (hb : FE X b fb) (hm : behindInMarks .NotIn b = false := by kernel_rfl) : FE X (.Compare a [.NotIn] [b] pos) (f2 bE fa fb) := jr ls lu ha hb hm
theorem wE (hm : X.mg "isinstance" = none) (hn : X.mg "str" = none) (ha : FE X a fa) (hg : X.env.kindOf (Str.ofString "isinstance") = some .globalImplicit := by kernel_rfl) (hg2 : X.env.kindOf (Str.ofString "str") = some .globalImplicit := by kernel_rfl) (hs1 : starEach [a, .Name (Str.ofString "str") pt] X.env = (false, eval a X.env) :: starEach [.Name (Str.ofString "str") pt] X.env := by kernel_rfl) (hs2 : starEach [.Name (Str.ofString "str") pt] X.env = (false, eval (.Name (Str.ofString "str") pt) X.env) :: starEach [] X.env := by kernel_rfl) (hpl : (backTo pos (starEach [.Name (Str.ofString "str") pt] X.env)).any (·.1) = false := by kernel_rfl) : FE X (.Call (.Name "isinstance" p) [a, .Name (Str.ofString "str") pt] [] pos) (f1 (nu eS) fa) := uP (T := "str") qW uQ (by decide +kernel) (by kernel_rfl) hg hm hg2 hn ha hs1 hs2 hpl
theorem gf (ho : FE X o fo) (ha : FA X (e :: es) ga) (h : SmL X o "startswith" e es apos cpos := by exact ⟨by kernel_rfl, by kernel_rfl, by kernel_rfl, by kernel_rfl, by kernel_rfl⟩) : FE X (.Call (.Attribute o "startswith" apos) (e :: es) [] cpos) (fM (nZ Txt.startswith) fo ga) := mB PySem.F.slot_str_startswith PySem.F.type_str_startswith yg pR ho ha h
theorem iQ (ho : FE X o fo) (ha : FA X (e :: es) ga) (h : SmL X o "endswith" e es apos cpos := by exact ⟨by kernel_rfl, by kernel_rfl, by kernel_rfl, by kernel_rfl, by kernel_rfl⟩) : FE X (.Call (.Attribute o "endswith" apos) (e :: es) [] cpos) (fM (nZ Txt.endswith) fo ga) := mB PySem.F.slot_str_endswith PySem.F.type_str_endswith yh pR ho ha h
theorem o7 (ho : FE X o fo) (ha : FA X (e :: es) ga) (h : SmL X o "split" e es apos cpos := by exact ⟨by kernel_rfl, by kernel_rfl, by kernel_rfl, by kernel_rfl, by kernel_rfl⟩) : FE X (.Call (.Attribute o "split" apos) (e :: es) [] cpos) (fM (bN) fo ga) := mB PySem.F.slot_str_split PySem.F.type_str_split fW iD ho ha h
theorem hV (ho : FE X o fo) (ha : FA X (e :: es) ga) (h : SmL X o "partition" e es apos cpos := by exact ⟨by kernel_rfl, by kernel_rfl, by kernel_rfl, by kernel_rfl, by kernel_rfl⟩) : FE X (.Call (.Attribute o "partition" apos) (e :: es) [] cpos) (fM (iE) fo ga) := mB PySem.F.slot_str_partition PySem.F.type_str_partition q8 uW ho ha h
theorem o8 (ho : FE X o fo) (ha : FA X (e :: es) ga) (h : SmL X o "strip" e es apos cpos := by exact ⟨by kernel_rfl, by kernel_rfl, by kernel_rfl, by kernel_rfl, by kernel_rfl⟩) : FE X (.Call (.Attribute o "strip" apos) (e :: es) [] cpos) (fM (ez) fo ga) := mB PySem.F.slot_str_strip PySem.F.type_str_strip jH lN ho ha h
theorem dN {x : Str} (h : FE X (.Name x p) fa) : FE X (.Name x p) fa := h
theorem dC {k : Const} {n : Nat} (h : FE X (.Constant k n p) fa) : FE X (.Constant k n p) fa := h
theorem dA (h : FA X es ga) : FA X es ga := h
theorem dK {x : Str} {ks : List Keyword} (h : FE X (.Call (.Name x p) es ks pos) fa) : FE X (.Call (.Name x p) es ks pos) fa := h
theorem dM {x : Str} {ks : List Keyword} (h : FE X (.Call (.Attribute o x p) es ks pos) fa) : FE X (.Call (.Attribute o x p) es ks pos) fa := h
theorem dB {op : Operator} (h : FE X (.BinOp a op b pos) fa) : FE X (.BinOp a op b pos) fa := h
theorem dQ {ops : List CmpOp} (h : FE X (.Compare a ops es pos) fa) : FE X (.Compare a ops es pos) fa := h
theorem dT {fb : FnB} (h : FT X a fb) : FT X a fb := h
theorem dW {fb : FnB} (h : FW X a fb) : FW X a fb := h
theorem dE (h : FE X a fa) : FE X a fa := h
theorem dSs {st : List Stmt} {f : FnS} (h : FSs X st f) : FSs X st f := h
theorem dS {st : Stmt} {f : FnS} (h : FS X st f) : FS X st f := h
end
local macro_rules | `(tactic| walk_at "x") => `(tactic| (first
 | with_reducible (refine dN ?_; first
  | exact cF _ (by kernel_rfl) (by kernel_rfl!)
  | exact x6 _ (by kernel_rfl) (by kernel_rfl!)
  | exact yG (by with_unfolding_all assumption) (by kernel_rfl!)
  | exact yH (by with_unfolding_all assumption) (by kernel_rfl!))
 | with_reducible (refine dC ?_; first
  | exact bq
  | exact bd
  | exact uu
  | exact uv)
 | with_reducible (refine dA ?_; first
  | exact b5
  | refine aX ?_ ?_)
 | with_reducible (refine dK ?_; first
  | refine oU (by with_unfolding_all assumption) (by with_unfolding_all assumption) (by kernel_rfl!) ?_
  | refine mx (by with_unfolding_all assumption) (by with_unfolding_all assumption) (by kernel_rfl!) (by kernel_rfl) ?_
  | refine my (by with_unfolding_all assumption) (by with_unfolding_all (first | assumption | exact RoomM.of (by assumption) | exact rZ (by assumption))) (by kernel_rfl!) ?_
  | refine jw (glb (by kernel_rfl)) ?_ ?_
  | refine oa (glb (by kernel_rfl)) ?_ ?_
  | refine oM (glb (by kernel_rfl)) ?_ ?_
  | refine uO (by kernel_rfl) (glb (by kernel_rfl)) ?_ ?_
  | refine wE ?_ ?_ ?_
  | refine vi (T := "ValueError") (by with_unfolding_all exact XAllS.xtV (by assumption)) fZ (by decide +kernel) (by kernel_rfl) (glb (by kernel_rfl)) ?_ (glb (by kernel_rfl)) ?_ ?_
  | refine vh (by with_unfolding_all exact XAllS.xtO (by assumption) _ (by decide)) (by with_unfolding_all exact CA.c (by assumption) (by decide) rfl) (glb (by kernel_rfl)) (by kernel_rfl) (glb (by kernel_rfl)) ?_ ?_)
 | with_reducible (refine dM ?_; first
  | refine gf ?_ ?_
  | refine iQ ?_ ?_
  | refine o7 ?_ ?_
  | refine hV ?_ ?_
  | refine o8 ?_ ?_
  | refine oy ?_ ?_
  | refine oh ?_ ?_)
 | with_reducible (refine dB ?_; first
  | refine wg ?_ ?_
  | refine wj ?_ ?_
  | refine wm ?_ ?_
  | refine wn ?_ ?_
  | refine su ?_ ?_
  | refine wo ?_ ?_)
 | with_reducible (refine dQ ?_; first
  | refine wy ?_ ?_ ?_
  | refine wz ?_ ?_
  | refine wD ?_ ?_
  | refine mP ?_ ?_)
 | with_reducible (refine dT ?_; first
  | refine wq ?_ ?_ ?_
  | refine wt ?_ ?_ ?_
  | refine wu ?_ ?_
  | refine wv ?_ ?_
  | refine sv ?_ ?_
  | refine sw ?_ ?_ ?_
  | refine ww ?_ ?_
  | refine mM ?_ ?_
  | refine wx ?_ ?_ ?_
  | refine mO ?_ ?_ ?_
  | refine FW.ft (pH ?_ ?_)
  | refine FW.ft (ux ?_ ?_)
  | refine pI ?_
  | refine uw ?_)
 | with_reducible (refine dW ?_; first
  | refine pH ?_ ?_
  | refine ux ?_ ?_
  | refine qQ ?_
  | refine pG ?_)
 | with_reducible (refine dE ?_; first
  | refine vW ?_ ?_
  | refine jt ?_
  | refine pJ ?_
  | refine uy ?_
  | refine uz ?_ ?_
  | refine x8 ?_ ?_
  | refine uA ?_
  | refine uK ?_
  | refine uN ?_ ?_ ?_
  | refine lP ?_ ?_ ?_
  | refine yI ?_ ?_ ?_)
 | with_reducible (refine dSs ?_; first
  | exact fQ
  | refine fss_dictA ?_ ?_ ?_
  | refine df ?_
  | refine oX ?_ ?_
  | refine dJ ?_ ?_)
 | with_reducible (refine dS ?_; first
  | refine fj ?_
  | refine uC ?_ ?_ ?_
  | refine yK ?_ ?_ ?_ (by kernel_rfl!)
  | refine yL ?_ ?_ ?_ (by kernel_rfl!)
  | refine rS ?_
  | refine rV ?_ ?_ ?_
  | refine om _ (by with_unfolding_all exact XAllS.xc (by assumption) _ (by decide)) (by kernel_rfl) (by with_unfolding_all exact CA.c (by assumption) (by decide) rfl) (by kernel_rfl) (by kernel_rfl) (glb (by kernel_rfl)) ?_
  | refine vm _ _ _ (by kernel_rfl) (by kernel_rfl) (by kernel_rfl) (glb (by kernel_rfl)) (by with_unfolding_all exact CA.j (by assumption)) (by with_unfolding_all exact XAllS.exJ (by assumption)) (by with_unfolding_all exact CA.xk (by assumption)) (b4 (by kernel_rfl)) (by kernel_rfl) (by kernel_rfl) (by kernel_rfl) ?_ ?_)
 | with_reducible exact lv
 | with_reducible refine lw ?_
 | with_reducible exact oV
 | with_reducible refine oW ?_
 | with_reducible intro _ _ _ _
 | with_reducible refine DK.fds_cons ?_ ?_
 | with_reducible exact DK.fds_nil
 | with_reducible refine DK.fds_one ?_
 | with_reducible refine DK.fd_if ?_ ?_ ?_
 | with_reducible refine DK.fd_setA ?_
 | with_reducible refine DK.fd_putA ?_ ?_ ?_
 | with_reducible refine DK.fd_forA ?_ ?_ ?_
 | with_reducible refine DK.fd_forLA ?_ ?_ ?_
 | with_reducible refine DK.fd_callT (by with_unfolding_all assumption) (by with_unfolding_all assumption) (by kernel_rfl!) ?_
 | with_reducible refine DK.fv_of ?_
 | with_reducible refine DK.fv_get1A ?_ ?_
 | with_reducible refine DK.fv_idxA ?_ ?_
 | with_reducible refine DK.fv_tup ?_
 | with_reducible refine DK.fva_cons ?_ ?_
 | with_reducible exact DK.fva_nil
 | with_reducible refine DK.fv_addT ?_ ?_
 | with_reducible refine DK.fss_dict2A ?_ ?_ ?_ ?_ ?_ ?_
 | with_reducible refine DK.fr_setRA ?_ ?_
 | with_reducible refine DK.fr_ret ?_
 | with_reducible refine lj (glb (by kernel_rfl)) ?_ ?_
 | with_reducible refine li ?_
 | with_reducible refine FI.toG ?_
 | with_reducible refine fd_forA ?_ ?_ ?_
 | with_reducible refine fds_one ?_
 | with_reducible refine fd_putA ?_ ?_ ?_
 | with_reducible refine fv_getA ?_ ?_ ?_
 | with_reducible refine fr_setA ?_ ?_
 | with_reducible refine fv_of ?_
 | with_reducible intro _ _
 | with_reducible exact rm
 | with_reducible refine rn ?_
 | with_reducible refine oE ?_ ?_
 | with_reducible refine vC ?_
 | with_reducible refine yB (by kernel_rfl) ?_ ?_ ?_
 | with_reducible refine oK (by kernel_rfl) (eD (by kernel_rfl) (by kernel_rfl) (by kernel_rfl) (by kernel_rfl)) ?_ ?_
 | with_reducible refine rT ?_
 | with_reducible refine rW ?_ ?_ ?_
 | assumption
 | exact MA.no (by assumption) (by kernel_rfl)
 | exact Room.units (by assumption)
 | exact RoomM.units (by assumption)
 | exact Room.units0 (by assumption)
 | exact PassesOwn.never
 | exact PassesOwn.leaving) <;> walk_at "x")
local macro_rules | `(tactic| walk_at "b") => `(tactic| (intros; (conv => arg 2; whnf); walk_at "x"))
local macro_rules | `(tactic| walk_at "q") => `(tactic| (intros; (conv => arg 3; whnf); walk_at "x"))
local macro_rules | `(tactic| walk_at "d") => `(tactic| (intro _ _ _ _ _ _ us hl; rcases us with _ | ⟨_, _ | ⟨_, _ | ⟨_, _ | ⟨_, _ | ⟨_, _ | ⟨_, _ | ⟨_, _ | ⟨_, us⟩⟩⟩⟩⟩⟩⟩⟩ <;> first | rfl | cases hl))
def CC : vU := [cN "ValueError", cN "all", cN "int", cN "isinstance", cN "len", cN "range", cN "str", cN "tuple", cS "FIGURES" "0123456789", cI "GIVEN_HOUSE" 2, cI "GIVEN_LASTS" 5, cI "GIVEN_PATH" 3, cI "GIVEN_REACH" 7, cI "GIVEN_SAFE" 6, cI "GIVEN_UNTIL" 4, cS "LABEL_SIGNS" "abcdefghijklmnopqrstuvwxyz0123456789-", cI "LONGEST_LABEL" 8, cI "LONGEST_NOTE_NAME" 10, cI "LONGEST_PATH" 20, cI "LONGEST_WORTH" 12, cI "MOST_FIGURES" 4, cI "MOST_LABELS" 5, cS "NOTE_NAME_SIGNS" "abcdefghijklmnopqrstuvwxyzABCDEFGHIJKLMNOPQRSTUVWXYZ0123456789-_", cS "NO_WORTH_SIGNS" ";,=", cS "PATH_SIGNS" "abcdefghijklmnopqrstuvwxyz0123456789-_./"]
section
variable {P : Program} {w : World} {K : PySem.W.Frag} {mg : Str → Option Value} {base h : Heap} {f : Addr} {cls : Nat → Addr} {CJ : Addr} (XI : K.In h) (Gn : h.Ns mainGlobals mg) (M : MA mg CC) (xa : XAllS K [0, 1, 2, 3, 4, 5, 6] cls CJ) (ca : CA K mg cls CJ [0, 1, 2, 3, 4, 5, 6] 7)
include XI Gn M xa ca
def T0 : dP := []
def TE0 : dP := []
def TM0 : dP := []
def TD0 : DK.DTab := []
def bA : FnS := (aT (bL (fB (f2 xg (ae 0) (gx al))) (bD (f2 dh (fC (.int 7)) (ae 1))) (fun ρ => some (.nx ρ))) (bD (f2 cJ (f2 ixD (ae 0) (f2 cK (ae 1) (fB1 b9 (aa (ae 0) al)))) (f2 dh (fC (.int 6553)) (f2 cX (ae 1) (fB1 b9 (aa (ae 0) al)))))))
def aU : List Dv → Option (Rs Dv) := dD 2 bA
def T1 : dP := ("_law_cell", 1, ["_law_script", "_law_k"], aU) :: T0
theorem hX (A : Af K "_law_cell" (top 41) f) (t : HA P w K mg base T0) : HA P w K mg base T1 :=
 aY (bF XI Gn ["_law_script", "_law_k"] ["_law_script", "_law_k"] bA A (by walk_at "d") (by delta bA; walk_at "b")) t
def aV : FnS := (aT (bZ 3 (f2 cK (f2 cJ (f2 dh (f2 cK (ay aU 2 (aa (ae 0) (aa (ae 1) al))) (fC (.int 2147483563))) (fC (.int 69069))) (f2 dh (fC (.int 104723)) (f2 cJ (ae 1) (fC (.int 1))))) (fC (.int 2147483563)))) (aT (bZ 3 (f2 cK (f2 cJ (f2 dh (ae 3) (ae 3)) (f2 cX (ae 3) (fC (.int 3)))) (fC (.int 2147483399)))) (bD (f2 cK (f2 cX (f2 cK (f2 cJ (f2 dh (ae 3) (ae 3)) (f2 cX (ae 3) (fC (.int 7)))) (fC (.int 2147483647))) (fC (.int 11))) (ae 2)))))
def au : List Dv → Option (Rs Dv) := dD 4 aV
def T2 : dP := ("_law_drawn", 2, ["_law_script", "_law_k", "_law_many"], au) :: T1
theorem gg (A : Af K "_law_drawn" (top 42) f) (t : HA P w K mg base T1) : HA P w K mg base T2 :=
 aY (bF XI Gn ["_law_script", "_law_k", "_law_many", "_law_cell_here"] ["_law_script", "_law_k", "_law_many"] aV A (by walk_at "d") (by delta aV; walk_at "b")) t
def aZ : FnS := (aT (bL (bOr (fB (f2 eqX (ae 0) (fC (.str "")))) (bOr (fB (f2 gtD (fB1 b9 (aa (ae 0) al)) (fC (.int 4)))) (fB (f2 neX (b8 [] (b7 (ae 0)) (some (fB (f2 bE (ae 0) (fC (.str "0123456789"))))) (ae 0)) (gx al))))) (bD (fC .non)) (fun ρ => some (.nx ρ))) (bD (fB1 rM (aa (ae 0) al))))
def ax : List Dv → Option (Rs Dv) := dD 1 aZ
def T3 : dP := ("_law_moment", 1, ["_law_word"], ax) :: T2
theorem eU (A : Af K "_law_moment" (top 49) f) (t : HA P w K mg base T2) : HA P w K mg base T3 :=
 aY (bF XI Gn ["_law_word"] ["_law_word"] aZ A (by walk_at "d") (by delta aZ; walk_at "b")) t
def bf : FnS := (aT (bL (eQ (fB (f1 (nu eS) (ae 0)))) (bD (fC (.bl false))) (fun ρ => some (.nx ρ))) (aT (bL (bOr (fB (f2 ltX (fB1 b9 (aa (ae 0) al)) (ae 2))) (fB (f2 gtD (fB1 b9 (aa (ae 0) al)) (ae 3)))) (bD (fC (.bl false))) (fun ρ => some (.nx ρ))) (bD (fB1 nW (aa (b8 [("signs", 1)] (b7 (ae 0)) none (f2 inD (ae 0) (ae 1))) al)))))
def av : List Dv → Option (Rs Dv) := dD 4 bf
def T4 : dP := ("is_text_of", 1, ["thing", "signs", "least", "most"], av) :: T3
theorem gh (A : Af K "is_text_of" (top 10) f) (t : HA P w K mg base T3) : HA P w K mg base T4 :=
 aY (bF XI Gn ["thing", "signs", "least", "most"] ["thing", "signs", "least", "most"] bf A (by walk_at "d") (by delta bf; walk_at "b")) t
def bP : FnS := (aT (bL (eQ (fB (ay av 4 (aa (ae 0) (aa (fC (.str "abcdefghijklmnopqrstuvwxyz0123456789-")) (aa (fC (.int 1)) (aa (fC (.int 8)) al))))))) (bD (fC (.bl false))) (fun ρ => some (.nx ρ))) (bD (kB (sS (fM (nZ Txt.startswith) (ae 0) (aa (fC (.str "-")) al))) (sS (fM (nZ Txt.endswith) (ae 0) (aa (fC (.str "-")) al))))))
def a7 : List Dv → Option (Rs Dv) := dD 1 bP
def T5 : dP := ("is_label", 2, ["thing"], a7) :: T4
theorem iR (A : Af K "is_label" (top 16) f) (t : HA P w K mg base T4) : HA P w K mg base T5 :=
 aY (bF XI Gn ["thing"] ["thing"] bP A (by walk_at "d") (by delta bP; walk_at "b")) t
def ck : FnS := (aT (bL (eQ (fB (f1 (nu eS) (ae 0)))) (bD (fC (.bl false))) (fun ρ => some (.nx ρ))) (aT (bZ 1 (fM (bN) (ae 0) (aa (fC (.str ".")) al))) (aT (bL (bOr (fB (f2 gtD (fB1 b9 (aa (ae 1) al)) (fC (.int 5)))) (eQ (fB (fB1 nW (aa (b8 [] (b7 (ae 1)) none (ay a7 1 (aa (ae 0) al))) al))))) (bD (fC (.bl false))) (fun ρ => some (.nx ρ))) (bD (sS (ay av 4 (aa (f2 ixD (ae 1) (f1 yc (fC (.int 1)))) (aa (fC (.str "0123456789")) (aa (fC (.int 1)) (aa (fC (.int 8)) al))))))))))
def bg : List Dv → Option (Rs Dv) := dD 2 ck
def T6 : dP := ("is_name", 3, ["thing"], bg) :: T5
theorem kr (A : Af K "is_name" (top 17) f) (t : HA P w K mg base T5) : HA P w K mg base T6 :=
 aY (bF XI Gn ["thing", "parts"] ["thing"] ck A (by walk_at "d") (by delta ck; walk_at "b")) t
def cq : FnS := (bD (kB (ay av 4 (aa (ae 0) (aa (fC (.str "abcdefghijklmnopqrstuvwxyz0123456789-_./")) (aa (fC (.int 1)) (aa (fC (.int 20)) al))))) (fM (nZ Txt.startswith) (ae 0) (aa (fC (.str "/")) al))))
def bh : List Dv → Option (Rs Dv) := dD 1 cq
def T7 : dP := ("is_path", 2, ["thing"], bh) :: T6
theorem kt (A : Af K "is_path" (top 21) f) (t : HA P w K mg base T6) : HA P w K mg base T7 :=
 aY (bF XI Gn ["thing"] ["thing"] cq A (by walk_at "d") (by delta cq; walk_at "b")) t
def ar : DK.FnD := (DK.dSeq (DK.dSet 3 (nr (ae 1) (aL (f2 cJ (fB1 b9 (aa (ae 2) al)) (fC (.int 1)))) aO)) (DK.dIf (gJ (fB (fM (nZ Txt.startswith) (ae 1) (aa (f2 cJ (ae 2) (fC (.str " "))) al))) (fB (f2 bE (fC (.str " ")) (ae 3)))) (DK.dSeq (DK.dIf (bOr (gJ (fB (f2 eqX (ae 2) (fC (.str "for")))) (fB (ay bg 1 (aa (ae 3) al)))) (gJ (fB (f2 eqX (ae 2) (fC (.str "under")))) (fB (ay bh 1 (aa (ae 3) al))))) (DK.dPut (ae 2) (DK.vE (ae 3))) DK.dNil) (DK.dIf (gJ (fB (f2 inD (ae 2) (cU (aa (fC (.str "until")) (aa (fC (.str "lasts")) al))))) (fB (f2 pP (ay ax 1 (aa (ae 3) al)) (fC .non)))) (DK.dPut (ae 2) (DK.vE (ay ax 1 (aa (ae 3) al)))) DK.dNil)) DK.dNil))
def aW : DK.FnD := (DK.dSeq (DK.dIf (fB (f2 eqX (ae 1) (fC (.str "safe")))) (DK.dPut (fC (.str "safe")) (DK.vE (fC (.bl true)))) DK.dNil) (DK.dSeq (DK.dIf (fB (f2 inD (ae 1) (cU (aa (fC (.str "any")) (aa (fC (.str "near")) al))))) (DK.dPut (fC (.str "reach")) (DK.vE (ae 1))) DK.dNil) (DK.dFor 2 (cU (aa (fC (.str "for")) (aa (fC (.str "under")) (aa (fC (.str "until")) (aa (fC (.str "lasts")) al))))) ar)))
def bi : List Dv → DK.Kv → Option DK.Kv := DK.runD 3 aW
def TD1 : DK.DTab := ("_law_part", 4, bi) :: TD0
theorem gi (A : Af K "_law_part" (top 50) f) (t : HA P w K mg base T7) (td : DK.HAD P w K mg base TD0) : DK.HAD P w K mg base TD1 :=
 DK.had_cons (DK.hasD_mk (x0 := "_law_told_here") (p0 := "_law_told_here") XI Gn ["_law_part_here", "_law_word", "_law_thing"] ["_law_part_here"] aW A (by walk_at "d") (by delta aW ar; walk_at "q")) td
def aC : DK.FnD := (DK.dCall bi (ae 4))
def cB : FnS := (aT (bZ 1 (aP 1 [] (b7 (fM (bN) (ae 0) (aa (fC (.str ";")) al))) (gN 0) none (fM (ez) (ae 0) (aa (fC (.str " ")) al)))) (aT (bZ 2 (fM (bN) (f2 ixD (ae 1) (fC (.int 0))) (aa (fC (.str "=")) al))) (aT (bL (bOr (fB (f2 neX (fB1 b9 (aa (ae 2) al)) (fC (.int 2)))) (bOr (eQ (fB (fg leX leX (fC (.int 1)) (fB1 b9 (aa (f2 ixD (ae 2) (fC (.int 0))) al)) (fC (.int 10))))) (fB (f2 gtD (fB1 b9 (aa (f2 ixD (ae 2) (fC (.int 1))) al)) (fC (.int 12)))))) (bD (cU (aa (fC (.str "refused")) (aa (fC (.int 4)) al)))) (fun ρ => some (.nx ρ))) (aT (bL (eQ (fB (xo (kq "_" "a" (kq "-" "_" (f2 ixD (ae 2) (fC (.int 0)))))))) (bD (cU (aa (fC (.str "refused")) (aa (fC (.int 4)) al)))) (fun ρ => some (.nx ρ))) (aT (bL (fB (f2 neX (b8 [] (b7 (f2 ixD (ae 2) (fC (.int 1)))) (some (fB (f2 inX (ae 0) (fC (.str " ,"))))) (ae 0)) (gx al))) (bD (cU (aa (fC (.str "refused")) (aa (fC (.int 4)) al)))) (fun ρ => some (.nx ρ))) (DK.fDict2 3 (fC (.str "safe")) (fC (.bl false)) (fC (.str "reach")) (fC (.str "any")) (DK.dForL 4 (bp (ae 1) (aL (fC (.int 1))) aO) aC) (DK.rSetR 5 (DK.vTup (DK.vaCons (DK.vE (f2 ixD (ae 2) (fC (.int 0)))) (DK.vaCons (DK.vE (f2 ixD (ae 2) (fC (.int 1)))) (DK.vaCons (DK.vGet1 (fC (.str "for"))) (DK.vaCons (DK.vGet1 (fC (.str "under"))) (DK.vaCons (DK.vGet1 (fC (.str "until"))) (DK.vaCons (DK.vGet1 (fC (.str "lasts"))) DK.vaNil))))))) (DK.rRet (DK.v2 bn (DK.vE (ae 5)) (DK.vTup (DK.vaCons (DK.vIdx (fC (.str "safe"))) (DK.vaCons (DK.vIdx (fC (.str "reach"))) DK.vaNil))))))))))))
def a9 : List Dv → Option (Rs Dv) := dD 6 cB
def T8 : dP := ("_law_due", 5, ["_law_text"], a9) :: T7
theorem iS (A : Af K "_law_due" (top 51) f) (t : HA P w K mg base T7) (td : DK.HAD P w K mg base TD1) : HA P w K mg base T8 :=
 aY (bF XI Gn ["_law_text", "_law_parts", "_law_sides", "_law_told_here", "_law_part_here", "_law_head"] ["_law_text"] cB A (by walk_at "d") (by
  intro cdv A outer s H E hr
  have m_len : mg "len" = none := M.no (by kernel_rfl)
  exact (dJ (iM (rN 1 (b4 (by kernel_rfl)) (by kernel_rfl) (.inl (by kernel_rfl)) (.inl rfl) (ah (top 51)) ["_law_text", "_law_parts", "_law_sides", "_law_told_here", "_law_part_here", "_law_head"] ["_law_part_here"] [0] [] (by kernel_rfl) (by kernel_rfl) ⟨by kernel_rfl, by decide +kernel, by decide +kernel, by decide +kernel, by decide +kernel⟩ (by kernel_rfl) rfl (oj _) (FI.toG (li (fV PySem.F.slot_str_split PySem.F.type_str_split fW iD (cF 0) (aX bd b5)))) (fun _ _ _ _ => iF 0 (show (["_law_part_here"] : List Str).Nodup by decide +kernel) (by kernel_rfl) (.inl (by kernel_rfl)) (.inr (by kernel_rfl))) (fun _ _ _ _ => (fV PySem.F.slot_str_strip PySem.F.type_str_strip jH lN (cF 0) (aX bd b5))) (fun _ _ _ _ => rfl)) eC) (dJ (pK 2 (b4 (by kernel_rfl)) (by kernel_rfl) (.inl (by kernel_rfl)) (fV PySem.F.slot_str_split PySem.F.type_str_split fW iD (gM (cF 1) bq) (aX bd b5))) (oJ (vO (FWg.ft (vN (bK (qY hr.units) qZ (jw (glb (by kernel_rfl)) m_len (aX (cF 2) b5)) bq (kX _)) (rL (mi (pI (jE lR lS lR lS bq (jw (glb (by kernel_rfl)) m_len (aX (gM (cF 2) bq) b5)) bq)) (by kernel_rfl)) (pG (bK ub (uL _) (jw (glb (by kernel_rfl)) m_len (aX (gM (cF 2) bq) b5)) bq (kX _)))))) (df (fj (jt (aX bd (aX bq b5))))) fQ) (ml (vP (rK (rJ (rH (jN (jN (FE.to1 (gM (cF 2) bq))))))) (df (fj (jt (aX bd (aX bq b5))))) fQ) (dJ (uC (bK (qY hr.units) qZ (oN (ah (top 51)) ["_law_text", "_law_parts", "_law_sides", "_law_told_here", "_law_part_here", "_law_head"] ["_law_sign"] [0] [] (by kernel_rfl) (by kernel_rfl) ⟨by kernel_rfl, by decide +kernel, by decide +kernel, by decide +kernel, by decide +kernel⟩ (by kernel_rfl) rfl (oj _) (FI.toG (li (gM (cF 2) bq))) (fun _ _ _ _ => iF 0 (show (["_law_sign"] : List Str).Nodup by decide +kernel) (by kernel_rfl) (.inl (by kernel_rfl)) (.inr (by kernel_rfl))) (fun _ _ _ _ => (cF 0)) (fun _ _ _ _ => ⟨_, rfl, (bK (vx hr.units) vy (cF 0) bd (by kernel_rfl))⟩)) (pJ b5) (kX _)) (df (fj (jt (aX bd (aX bq b5))))) fQ) (DK.fss_dict2A bd uu bd bd (DK.fd_forLA PassesOwn.never (lP (cF 1) (lw bq) lv) (DK.fds_one (DK.fd_callT td hr (by kernel_rfl) (cF 4)))) (DK.fr_setRA (DK.fv_tup (DK.fva_cons (DK.fv_of (gM (cF 2) bq)) (DK.fva_cons (DK.fv_of (gM (cF 2) bq)) (DK.fva_cons (DK.fv_get1A hr.units bd) (DK.fva_cons (DK.fv_get1A hr.units bd) (DK.fva_cons (DK.fv_get1A hr.units bd) (DK.fva_cons (DK.fv_get1A hr.units bd) DK.fva_nil))))))) (DK.fr_ret (DK.fv_addT (DK.fv_of (cF 5)) (DK.fv_tup (DK.fva_cons (DK.fv_idxA hr.units bd) (DK.fva_cons (DK.fv_idxA hr.units bd) DK.fva_nil)))))))))))))) t
def bB : FnS := (aT (bZ 1 (gx (aa (f1 (isX (fun c => if ([0, 1, 2, 3, 4, 5, 6] : List Nat).contains c then some (c == 0) else none)) (ae 0)) (aa (f1 (isX (fun c => if ([0, 1, 2, 3, 4, 5, 6] : List Nat).contains c then some (c == 1) else none)) (ae 0)) (aa (f1 (isX (fun c => if ([0, 1, 2, 3, 4, 5, 6] : List Nat).contains c then some (c == 2) else none)) (ae 0)) al))))) (aT (bZ 1 (f2 cJ (ae 1) (gx (aa (f1 (isX (fun c => if ([0, 1, 2, 3, 4, 5, 6] : List Nat).contains c then some (c == 3) else none)) (ae 0)) (aa (f1 (isX (fun c => if ([0, 1, 2, 3, 4, 5, 6] : List Nat).contains c then some (c == 4) else none)) (ae 0)) (aa (f1 (isX (fun c => if ([0, 1, 2, 3, 4, 5, 6] : List Nat).contains c then some (c == 5) else none)) (ae 0)) al)))))) (aT (bZ 1 (f2 cJ (ae 1) (gx (aa (f1 (isX (fun c => if ([0, 1, 2, 3, 4, 5, 6] : List Nat).contains c then some (c == 6) else none)) (ae 0)) al)))) (aT (bL (bOr (fB (f2 neX (fML yu (ae 1) (aa (fC (.bl true)) al)) (fC (.int 1)))) (eQ (fB (f1 (isX (fun c => if ([0, 1, 2, 3, 4, 5, 6] : List Nat).contains c then some true else none)) (ae 0))))) (bD (cU (aa (fC (.str "refused")) (aa (f1 yc (fC (.int 1))) al)))) (fun ρ => some (.nx ρ))) (bD (cU (aa (fC (.str "refused")) (aa (fML yo (ae 1) (aa (fC (.bl true)) al)) al))))))))
def cr : List Dv → Option (Rs Dv) := dD 2 bB
def TM1 : dP := ("_law_refused", 1, ["_law_e"], cr) :: TM0
theorem eG (A : Af K "_law_refused" (top 47) f) (tm : HAM P w K mg base TM0) : HAM P w K mg base TM1 :=
 oR (rY XI Gn ["_law_e", "_law_flags"] ["_law_e"] bB A (by walk_at "d") (by delta bB; walk_at "b")) tm
def aQ : FnS := (bD (ay av 4 (aa (ae 0) (aa (fC (.str "abcdefghijklmnopqrstuvwxyzABCDEFGHIJKLMNOPQRSTUVWXYZ0123456789-_")) (aa (fC (.int 1)) (aa (fC (.int 10)) al))))))
def bc : List Dv → Option (Rs Dv) := dD 1 aQ
def T9 : dP := ("is_note_name", 2, ["thing"], bc) :: T8
theorem eI (A : Af K "is_note_name" (top 34) f) (t : HA P w K mg base T8) : HA P w K mg base T9 :=
 aY (bF XI Gn ["thing"] ["thing"] aQ A (by walk_at "d") (by delta aQ; walk_at "b")) t
def bQ : FnS := (aT (bL (bOr (eQ (fB (f1 (nu eS) (ae 0)))) (fB (f2 gtD (fB1 b9 (aa (ae 0) al)) (fC (.int 12))))) (bD (fC (.bl false))) (fun ρ => some (.nx ρ))) (bD (fB1 nW (aa (b8 [] (b7 (ae 0)) none (kB (f2 leX (fC (.str "!")) (ae 0)) (kB (f2 leX (ae 0) (fC (.str "~"))) (f2 bE (ae 0) (fC (.str ";,=")))))) al))))
def cC : List Dv → Option (Rs Dv) := dD 1 bQ
def T10 : dP := ("is_worth", 1, ["thing"], cC) :: T9
theorem iT (A : Af K "is_worth" (top 35) f) (t : HA P w K mg base T9) : HA P w K mg base T10 :=
 aY (bF XI Gn ["thing"] ["thing"] bQ A (by walk_at "d") (by delta bQ; walk_at "b")) t
def bR : FnS := (bD (vOr (f2 eqX (ae 0) (fC (.str "any"))) (f2 eqX (ae 0) (fC (.str "near")))))
def bS : List Dv → Option (Rs Dv) := dD 1 bR
def T11 : dP := ("is_reach", 1, ["thing"], bS) :: T10
theorem iU (A : Af K "is_reach" (top 36) f) (t : HA P w K mg base T10) : HA P w K mg base T11 :=
 aY (bF XI Gn ["thing"] ["thing"] bR A (by walk_at "d") (by delta bR; walk_at "b")) t
def aE : FnS := (bD (ay av 4 (aa (ae 0) (aa (fC (.str "0123456789")) (aa (fC (.int 1)) (aa (fC (.int 4)) al))))))
def ap : List Dv → Option (Rs Dv) := dD 1 aE
def T12 : dP := ("is_written_moment", 2, ["text"], ap) :: T11
theorem cH (A : Af K "is_written_moment" (top 37) f) (t : HA P w K mg base T11) : HA P w K mg base T12 :=
 aY (bF XI Gn ["text"] ["text"] aE A (by walk_at "d") (by delta aE; walk_at "b")) t
def aR : FnS := (aT (bL (fB (f2 eqX (ae 0) (fC (.str "safe")))) (bD (cU (aa (fC (.int 6)) (aa (fC (.bl true)) al)))) (fun ρ => some (.nx ρ))) (aT (bL (fB (ay bS 1 (aa (ae 0) al))) (bD (cU (aa (fC (.int 7)) (aa (ae 0) al)))) (fun ρ => some (.nx ρ))) (aT (bZ 1 (fM (iE) (ae 0) (aa (fC (.str " ")) al))) (aT (bZ 2 (f2 ixD (ae 1) (fC (.int 0)))) (aT (bZ 3 (f2 ixD (ae 1) (fC (.int 2)))) (aT (bL (gJ (fB (f2 eqX (ae 2) (fC (.str "for")))) (fB (ay bg 1 (aa (ae 3) al)))) (bD (cU (aa (fC (.int 2)) (aa (ae 3) al)))) (fun ρ => some (.nx ρ))) (aT (bL (gJ (fB (f2 eqX (ae 2) (fC (.str "under")))) (fB (ay bh 1 (aa (ae 3) al)))) (bD (cU (aa (fC (.int 3)) (aa (ae 3) al)))) (fun ρ => some (.nx ρ))) (aT (bL (gJ (fB (f2 eqX (ae 2) (fC (.str "until")))) (fB (ay ap 1 (aa (ae 3) al)))) (bD (cU (aa (fC (.int 4)) (aa (fB1 rM (aa (ae 3) al)) al)))) (fun ρ => some (.nx ρ))) (aT (bL (gJ (fB (f2 eqX (ae 2) (fC (.str "lasts")))) (fB (ay ap 1 (aa (ae 3) al)))) (bD (cU (aa (fC (.int 5)) (aa (fB1 rM (aa (ae 3) al)) al)))) (fun ρ => some (.nx ρ))) (bD (fC .non)))))))))))
def aS : List Dv → Option (Rs Dv) := dD 4 aR
def T13 : dP := ("what_is_told", 4, ["part"], aS) :: T12
theorem eJ (A : Af K "what_is_told" (top 38) f) (t : HA P w K mg base T12) : HA P w K mg base T13 :=
 aY (bF XI Gn ["part", "pieces", "word", "rest"] ["part"] aR A (by walk_at "d") (by delta aR; walk_at "b")) t
def aw : eT := (p6 (sW 5 (ay aS 1 (aa (ae 4) al))) (oIf (fB (f2 pP (ae 5) (fC .non))) (mn (f2 ixD (ae 5) (fC (.int 0))) (f2 ixD (ae 5) (fC (.int 1)))) zu))
def a5 : FnS := (aT (bL (eQ (fB (f1 (nu eS) (ae 0)))) (jz 4 (fC (.str "this is no text"))) (fun ρ => some (.nx ρ))) (aT (bZ 1 (aP 1 [] (b7 (fM (bN) (ae 0) (aa (fC (.str ";")) al))) (gN 0) none (fM (ez) (ae 0) (aa (fC (.str " ")) al)))) (aT (bZ 2 (fM (iE) (f2 ixD (ae 1) (fC (.int 0))) (aa (fC (.str "=")) al))) (aT (bL (bOr (fB (f2 eqX (f2 ixD (ae 2) (fC (.int 1))) (fC (.str "")))) (bOr (eQ (fB (ay bc 1 (aa (f2 ixD (ae 2) (fC (.int 0))) al)))) (eQ (fB (ay cC 1 (aa (f2 ixD (ae 2) (fC (.int 2))) al)))))) (jz 4 (fC (.str "the first part is no note's name, = and worth"))) (fun ρ => some (.nx ρ))) (vD 3 (aa (f2 ixD (ae 2) (fC (.int 0))) (aa (f2 ixD (ae 2) (fC (.int 2))) (aa (fC .non) (aa (fC .non) (aa (fC .non) (aa (fC .non) (aa (fC (.bl false)) (aa (fC (.str "any")) al)))))))) (p6 (p8 4 [4, 5] (b7 (nr (ae 1) (aL (fC (.int 1))) aO)) aw) (vA 3 (fB1 gR (aa (ae 3) al)))))))))
def bt : List Dv → Option (Rs Dv) := pW 6 a5
def TE1 : dP := ("read_given", 5, ["text"], bt) :: TE0
theorem gj (A : Af K "read_given" (top 39) f) (t : HA P w K mg base T13) (te : HAE P w K mg base TE0) : HAE P w K mg base TE1 :=
 oQ (rX XI Gn ["text", "parts", "first", "given", "part", "told"] ["text"] a5 A (by walk_at "d") (by delta a5 aw; walk_at "b")) te
def bC : FnS := (xn 7 1 2 (gU bt 1 (aa (ae 0) al)) (ay cr 1 (aa (ae 1) al)))
def aF : List Dv → Option (Rs Dv) := dD 2 bC
def T14 : dP := ("_law_told", 6, ["_law_text"], aF) :: T13
theorem h8 (A : Af K "_law_told" (top 48) f) (t : HA P w K mg base T13) (te : HAE P w K mg base TE1) (tm : HAM P w K mg base TM1) : HA P w K mg base T14 :=
 aY (bF XI Gn ["_law_text", "_law_e"] ["_law_text"] bC A (by walk_at "d") (by delta bC; walk_at "b")) t
def iV : FnE := (gx (aa (fC (.str "n=5")) (aa (fC (.str " n=5 ")) (aa (fC (.str "N_2=")) (aa (fC (.str "=5")) (aa (fC (.str "n")) (aa (fC (.str "n=5=6")) (aa (fC (.str "n =5")) (aa (fC (.str "n= 5")) (aa (fC (.str "safe-a=x/y")) (aa (fC (.str "n=a,b")) al)))))))))))
def iW : FnE := (f2 bn (ae 1) (gx (aa (fC (.str "12345678901=1")) (aa (fC (.str "n=a b")) (aa (fC (.str "")) (aa (fC (.str "n=1234567890123")) (aa (fC (.str "n-_1=~!")) al)))))))
def iX : FnE := (gx (aa (fC (.str "safe")) (aa (fC (.str "near")) (aa (fC (.str "any")) (aa (fC (.str "for a.b")) (aa (fC (.str "for c.uk")) (aa (fC (.str "for")) (aa (fC (.str "for a b")) (aa (fC (.str "for A.b")) (aa (fC (.str "until 7")) (aa (fC (.str "until 00012")) al)))))))))))
def iY : FnE := (f2 bn (ae 2) (gx (aa (fC (.str "until 0012")) (aa (fC (.str "until -1")) (aa (fC (.str "lasts 30")) (aa (fC (.str "lasts")) (aa (fC (.str "lasts x")) (aa (fC (.str "under /x")) (aa (fC (.str "under x")) (aa (fC (.str "under /")) al))))))))))
def iZ : FnE := (f2 bn (ae 2) (gx (aa (fC (.str "Safe")) (aa (fC (.str "")) (aa (fC (.str " ")) (aa (fC (.str "x=y")) (aa (fC (.str "for  b")) (aa (fC (.str "foo 7")) (aa (fC (.str "made 7")) (aa (fC (.str "for 7")) (aa (fC (.str "safe 7")) al)))))))))))
def gk : FnE := (f2 ixD (ae 1) (f2 cK (ay au 3 (aa (ae 0) (aa (fC (.int 0)) (aa (f2 bn (fB1 b9 (aa (ae 1) al)) (fC (.int 9))) al)))) (fB1 b9 (aa (ae 1) al))))
def eK : FnB := (fB (f2 eqX (ay au 3 (aa (ae 0) (aa (fC (.int 1)) (aa (fC (.int 2)) al)))) (fC (.int 0))))
def i4 : FnE := (fC (.str "n=5"))
def gl : FnE := (f2 ixD (ae 2) (ay au 3 (aa (ae 0) (aa (f2 bn (fC (.int 3)) (f2 dh (fC (.int 4)) (ae 4))) (aa (fB1 b9 (aa (ae 2) al)) al)))))
def gm : FnE := (f2 vp (fC (.str " ")) (ay au 3 (aa (ae 0) (aa (f2 bn (fC (.int 4)) (f2 dh (fC (.int 4)) (ae 4))) (aa (fC (.int 3)) al)))))
def gn : FnE := (f2 bn (f2 bn (f2 bn (f2 bn (ae 3) (fC (.str ";"))) (ae 6)) (ae 5)) (f2 vp (fC (.str " ")) (ay au 3 (aa (ae 0) (aa (f2 bn (fC (.int 5)) (f2 dh (fC (.int 4)) (ae 4))) (aa (fC (.int 2)) al))))))
def cu : FnS := (aT (bZ 5 gl) (aT (bZ 6 gm) (bZ 3 gn)))
def dX : FnE := (ay au 3 (aa (ae 0) (aa (fC (.int 50)) (aa (f2 bn (fB1 b9 (aa (ae 3) al)) (fC (.int 1))) al))))
def i6 : FnB := (fB (f2 neX (ay aF 1 (aa (ae 8) al)) (ay a9 1 (aa (ae 8) al))))
def eL : FnS := (bL i6 (bD (fC (.bl false))) (fun ρ => some (.nx ρ)))
def i7 : FnB := (fB (f2 neX (ay aF 1 (aa (ae 3) al)) (ay a9 1 (aa (ae 3) al))))
def cw : FnS := (bL i7 (bD (fC (.bl false))) (fun ρ => some (.nx ρ)))
def dY : FnE := (f2 ixD (gx (aa (fC .non) (aa (fC (.int 5)) (aa (cU (aa (fC (.str "n=5")) al)) (aa (fC (.bl true)) (aa (gx (aa (fC (.str "n=5")) al)) al)))))) (ay au 3 (aa (ae 0) (aa (fC (.int 51)) (aa (fC (.int 5)) al)))))
def gp : FnE := (f2 eqX (ay aF 1 (aa (ae 9) al)) (cU (aa (fC (.str "refused")) (aa (fC (.int 4)) al))))
def mQ : FnS := (aT (bZ 1 iV) (aT (bZ 1 iW) (aT (bZ 2 iX) (aT (bZ 2 iY) (aT (bZ 2 iZ) (aT (bZ 3 gk) (aT (bL eK (bZ 3 i4) (fun ρ => some (.nx ρ))) (aT (ll 4 [4, 6] (fun ρ => bnd ((aa (ay au 3 (aa (ae 0) (aa (fC (.int 2)) (aa (fC (.int 7)) al)))) al) ρ) pL) cu) (aT (bZ 7 dX) (aT (ll 8 [8] (b7 (cU (aa (ae 3) (aa (f2 bn (f2 bn (bp (ae 3) aO (aL (ae 7))) (fC (.str ";"))) (bp (ae 3) (aL (ae 7)) aO)) (aa (f2 bn (bp (ae 3) aO (aL (ae 7))) (bp (ae 3) (aL (f2 bn (ae 7) (fC (.int 1)))) aO)) (aa (f2 bn (f2 bn (bp (ae 3) aO (aL (ae 7))) (fC (.str "="))) (bp (ae 3) (aL (ae 7)) aO)) al)))))) eL) (aT (ll 3 [3] (b7 (f2 bn (ae 1) (b8 [] (b7 (ae 2)) none (f2 bn (fC (.str "n=5; ")) (ae 0))))) cw) (aT (bZ 9 dY) (bD gp)))))))))))))
def mR : List Dv → Option (Rs Dv) := dD 10 mQ
theorem wF {fd : FuncData} (A : Fun K "law" "law" (top 52) f fd) (t : HA P w K mg base T14) : FnOk P w K mg base CX0 7 f fd ["_law_script"] (spF K mR 1) :=
 pM ["_law_script", "_law_firsts", "_law_some", "_law_text", "_law_k", "_law_part_here", "_law_blanks", "_law_at", "_law_spoilt", "_law_bad"] ["_law_script"] mQ (by kernel_rfl) (by kernel_rfl) A (vX (by kernel_rfl)) (by delta mQ iV iW iX iY iZ gk eK i4 gl gm gn cu dX i6 eL i7 cw dY gp; walk_at "b")
end
theorem af {K : PySem.W.Frag} {x : Str} {st : Stmt} (f : Addr) (m : String) (t c : Nat) (a : nsM K x = some (some (.ref f)) := by kernel_rfl) (l : K.lookup f = some ⟨Value.type "function", none, .func (PySem.W.fnOf x x (dc st) (aN st) (ah st) .none .none .none (kS m t) none (kR c) .none), #[]⟩ := by kernel_rfl) (cc : PySem.W.codeIn K (kR c) x = true := by kernel_rfl) (k : PySem.W.keepIn K (.ref f) = true := by kernel_rfl) : Af K x st f := ⟨a, ⟨_, uq l cc k⟩, k⟩
theorem all_mk {l : PySem.W.OpenLaw} {w : World} {K : PySem.W.Frag} {h : Heap} {mg : Str → Option Value} {fa : Addr} (X : K.In h) (G : h.Ns mainGlobals mg) (hfa : mg "law" = some (.ref fa))
 {f1 f2 f3 f4 f5 f6 f7 f8 f9 f10 f11 f12 f13 f14 f15 f16 f17 fl : Addr}
 (A1 : Af K "_law_cell" (top 41) f1)
 (A2 : Af K "_law_drawn" (top 42) f2)
 (A3 : Af K "_law_moment" (top 49) f3)
 (A4 : Af K "is_text_of" (top 10) f4)
 (A5 : Af K "is_label" (top 16) f5)
 (A6 : Af K "is_name" (top 17) f6)
 (A7 : Af K "is_path" (top 21) f7)
 (A8 : Af K "_law_part" (top 50) f8)
 (A9 : Af K "_law_due" (top 51) f9)
 (A10 : Af K "_law_refused" (top 47) f10)
 (A11 : Af K "is_note_name" (top 34) f11)
 (A12 : Af K "is_worth" (top 35) f12)
 (A13 : Af K "is_reach" (top 36) f13)
 (A14 : Af K "is_written_moment" (top 37) f14)
 (A15 : Af K "what_is_told" (top 38) f15)
 (A16 : Af K "read_given" (top 39) f16)
 (A17 : Af K "_law_told" (top 48) f17)
 (AL : Af K "law" (top 52) fl) (ma : CC.all (yF K) = true) {C0 C1 C2 C3 C4 C5 C6 CJ : Addr} (cb : caB K [0, 1, 2, 3, 4, 5, 6] [C0, C1, C2, C3, C4, C5, C6] CJ 7 = true) :
 ∃ fd : FuncData, (∀ (s : Shared) (v : Value), BindsTo s fd ⟨[v], []⟩ [("_law_script", v)]) ∧ ∀ base : Heap, K.In base → base.Ns mainGlobals mg → FnOk l.prog w K mg base CX0 7 fa fd ["_law_script"] (spF K mR 1) := by
 have e := hfa.symm.trans (PySem.W.mg_of X G AL.a)
 cases e
 have M := vV X G CC ma
 obtain ⟨fd, Fn⟩ := AL.F
 refine ⟨fd, ?_, fun base _ _ => ?_⟩
 · obtain ⟨oc, od, kV, doc, pm, an, cdv, ct, osl, rfl, lk, hcd⟩ := Fn.ex
   exact fun s v => .of_eq rfl
 obtain ⟨xa, ca⟩ := yM X G cb
 have t0 : HA l.prog w K mg base T0 := vT
 have te0 : HAE l.prog w K mg base TE0 := rQ
 have tm0 : HAM l.prog w K mg base TM0 := rR
 have td0 : DK.HAD l.prog w K mg base TD0 := DK.had_nil
 have t1 := hX X G M xa ca A1 t0
 have t2 := gg X G M xa ca A2 t1
 have t3 := eU X G M xa ca A3 t2
 have t4 := gh X G M xa ca A4 t3
 have t5 := iR X G M xa ca A5 t4
 have t6 := kr X G M xa ca A6 t5
 have t7 := kt X G M xa ca A7 t6
 have td1 := gi X G M xa ca A8 t7 td0
 have t8 := iS X G M xa ca A9 t7 td1
 have tm1 := eG X G M xa ca A10 tm0
 have t9 := eI X G M xa ca A11 t8
 have t10 := iT X G M xa ca A12 t9
 have t11 := iU X G M xa ca A13 t10
 have t12 := cH X G M xa ca A14 t11
 have t13 := eJ X G M xa ca A15 t12
 have te1 := gj X G M xa ca A16 t13 te0
 have t14 := h8 X G M xa ca A17 t13 te1 tm1
 exact wF X G M xa ca Fn t14
end G
set_option maxHeartbeats 4000000
namespace FD
open PySem PySem.Spec PyProof.Rows L2
theorem jT {elt : FnE} {cap : Ev} {α : Type} (en : α → Dv) (f : α → Dv) : ∀ {l : List α}, (∀ a ∈ l, elt (cap.set 0 (some (en a))) = some (.ok (f a))) → lm none elt cap (l.map en) = some (l.map f)
 | [], _ => rfl
 | a :: l, h => by
  have ih := jT (elt := elt) (cap := cap) en f (l := l) fun b hb => h b (List.mem_cons_of_mem _ hb)
  rw [List.map_cons, List.map_cons]
  unfold lm
  dsimp only
  rw [h a List.mem_cons_self, ih]
theorem ib {tst : FnB} {elt : FnE} {cap : Ev} {α : Type} (en : α → Dv) (p : α → Bool) (f : α → Dv) : ∀ {l : List α}, (∀ a ∈ l, tst (cap.set 0 (some (en a))) = some (.ok (p a)) ∧ elt (cap.set 0 (some (en a))) = some (.ok (f a))) → lm (some tst) elt cap (l.map en) = some ((l.filter p).map f)
 | [], _ => rfl
 | a :: l, h => by
  have ih := ib (tst := tst) (elt := elt) (cap := cap) en p f (l := l) fun b hb => h b (List.mem_cons_of_mem _ hb)
  obtain ⟨h1, h2⟩ := h a List.mem_cons_self
  rw [List.map_cons]
  unfold lm
  dsimp only
  rw [h1, ih]
  cases q : p a with
  | true => dsimp only; rw [h2, List.filter_cons_of_pos q]; rfl
  | false => dsimp only; rw [List.filter_cons_of_neg (by rw [q]; decide)]
theorem jU {elt : FnE} {cap : Ev} {α : Type} (en : α → Dv) (f : α → Dv) : ∀ {l : List α}, (∀ a ∈ l, elt (cap.set 0 (some (en a))) = some (.ok (f a))) → dO (gN 0) none elt cap (l.map en) = some (l.map f)
 | [], _ => rfl
 | a :: l, h => by
  have ih := jU (elt := elt) (cap := cap) en f (l := l) fun b hb => h b (List.mem_cons_of_mem _ hb)
  rw [List.map_cons, List.map_cons]
  unfold dO
  show (match elt (cap.set 0 (some (en a))) with | some (.ok y) => _ | _ => _) = _
  rw [h a List.mem_cons_self, ih]
theorem dZ {cs : List (Str × Nat)} {src : FnA} {elt : FnE} {ρ : Ev} {α : Type} (en f : α → Dv) {l : List α} (hs : src ρ = some (.ok (l.map en))) (hl : l.length ≤ 100000) (h : ∀ a ∈ l, elt ((nV cs ρ).set 0 (some (en a))) = some (.ok (f a))) : b8 cs src none elt ρ = some (.ok (.lst (l.map f))) := by
 unfold b8
 rw [hs]
 show (match lm none elt (nV cs ρ) (l.map en) with | some ys => _ | none => _) = _
 rw [jT en f h]
 dsimp only
 rw [if_pos ⟨by simpa using hl, by simpa using hl⟩]
theorem ic {cs : List (Str × Nat)} {src : FnA} {tst : FnB} {elt : FnE} {ρ : Ev} {α : Type} (en : α → Dv) (p : α → Bool) (f : α → Dv) {l : List α} (hs : src ρ = some (.ok (l.map en))) (hl : l.length ≤ 100000) (h : ∀ a ∈ l, tst ((nV cs ρ).set 0 (some (en a))) = some (.ok (p a)) ∧ elt ((nV cs ρ).set 0 (some (en a))) = some (.ok (f a))) :
 b8 cs src (some tst) elt ρ = some (.ok (.lst ((l.filter p).map f))) := by
 unfold b8
 rw [hs]
 show (match lm (some tst) elt (nV cs ρ) (l.map en) with | some ys => _ | none => _) = _
 rw [ib en p f h]
 dsimp only
 have := List.length_filter_le p l
 rw [if_pos ⟨by simp; omega, by simpa using hl⟩]
theorem mS {cs : List (Str × Nat)} {src : FnA} {elt : FnE} {ρ : Ev} {α : Type} (en f : α → Dv) {l : List α} (hs : src ρ = some (.ok (l.map en))) (hl : l.length ≤ 100000) (h : ∀ a ∈ l, elt ((br 1 cs ρ).set 0 (some (en a))) = some (.ok (f a))) : aP 1 cs src (gN 0) none elt ρ = some (.ok (.lst (l.map f))) := by
 unfold aP
 rw [hs]
 show (match dO (gN 0) none elt (br 1 cs ρ) (l.map en) with | some ys => _ | none => _) = _
 rw [jU en f h]
 dsimp only
 rw [if_pos ⟨by simpa using hl, by simpa using hl⟩]
theorem sx {j : Int} (h : -(2 ^ 62) ≤ j ∧ j < 2 ^ 62) : pL [.int j] = some (.ok (rng 0 j.toNat)) := by rw [pL, if_pos h]
mutual
def pln : Dv → Bool
 | .exn _ => false
 | .tup ds => plns ds
 | .lst ds => plns ds
 | _ => true
def plns : List Dv → Bool
 | [] => true
 | d :: ds => pln d && plns ds
end
mutual
theorem jV : ∀ d : Dv, pln d = true → PyData.eqv (bI d) (bI d) = true
 | .non, _ => by simp [bI, PyData.eqv]
 | .bl b, _ => by simp [bI, PyData.eqv]
 | .int b, _ => by simp [bI, PyData.eqv]
 | .str b, _ => by simp [bI, PyData.eqv]
 | .tup ds, h => by simp only [bI, PyData.eqv]; exact eqvs_refl ds (by simpa [pln] using h)
 | .lst ds, h => by simp only [bI, PyData.eqv]; exact eqvs_refl ds (by simpa [pln] using h)
 | .scr ns, _ => by
  simp only [bI, PyData.eqv]
  induction ns with
  | nil => simp [PyData.eqvAll]
  | cons n ns ih => simp [PyData.eqvAll, PyData.eqv]; exact ih rfl
 | .exn _, h => by simp [pln] at h
theorem eqvs_refl : ∀ ds : List Dv, plns ds = true → PyData.eqvAll (toPys ds) (toPys ds) = true
 | [], _ => by simp [toPys, PyData.eqvAll]
 | d :: ds, h => by
  have h' : pln d = true ∧ plns ds = true := by simpa [plns] using h
  simp only [toPys, PyData.eqvAll, Bool.and_eq_true]
  exact ⟨jV d h'.1, eqvs_refl ds h'.2⟩
end
theorem sy {d : Dv} (h1 : okP d = true) (h2 : pln d = true) : neX d d = some (.ok (.bl false)) := by
 unfold neX
 split
 · rename_i b hb
   have : b = true := by
    cases d <;> simp [eqS] at hb
    · exact hb
    · exact hb
    · exact hb
    · rw [← hb]; unfold seq; simp
   rw [this]; rfl
 · rw [h1, jV d h2]; rfl
structure It1 (k : Nat) (d : Dv) : Prop where
 c : PyData.canLay0 (bI d) = true
 dp : (bI d).depth ≤ k
 p : pln d = true
theorem sA {k : Nat} : ∀ {ds : List Dv}, (∀ d ∈ ds, It1 k d) → PyData.canLayAll0 (toPys ds) = true ∧ PyData.depthAll (toPys ds) ≤ k ∧ plns ds = true
 | [], _ => by simp [toPys, PyData.canLayAll0, PyData.depthAll, plns]
 | d :: ds, h => by
  obtain ⟨h1, h2, h3⟩ := sA (ds := ds) fun d' hd => h d' (List.mem_cons_of_mem _ hd)
  have h0 := h d List.mem_cons_self
  simp only [toPys, PyData.canLayAll0, PyData.depthAll, plns, Bool.and_eq_true]
  exact ⟨⟨h0.c, h1⟩, by have := h0.dp; omega, h0.p, h3⟩
theorem wG {k : Nat} {ds : List Dv} (h : ∀ d ∈ ds, It1 k d) : It1 (k + 1) (.tup ds) := by
 obtain ⟨h1, h2, h3⟩ := sA h
 exact ⟨by simpa [bI, PyData.canLay0] using h1, by simp [bI, PyData.depth]; exact h2, by simpa [pln] using h3⟩
theorem wH {k : Nat} {ds : List Dv} (h : ∀ d ∈ ds, It1 k d) : It1 (k + 1) (.lst ds) := by
 obtain ⟨h1, h2, h3⟩ := sA h
 exact ⟨by simpa [bI, PyData.canLay0] using h1, by simp [bI, PyData.depth]; exact h2, by simpa [pln] using h3⟩
theorem It1.okP {k : Nat} {d : Dv} (h : It1 k d) (hk : k ≤ 64) : okP d = true := by
 unfold FD.okP SeqAt.shaped
 rw [h.c]
 have := h.dp
 simp
 omega
theorem It1.le {k m : Nat} {d : Dv} (h : It1 k d) (hk : k ≤ m) : It1 m d := ⟨h.c, Nat.le_trans h.dp hk, h.p⟩
theorem mT {x : Str} (h : PyData.canLay0 (.str x) = true) : It1 0 (.str x) := ⟨h, by simp [bI, PyData.depth], rfl⟩
theorem qj {i : Int} : It1 0 (.int i) := ⟨rfl, by simp [bI, PyData.depth], rfl⟩
theorem wI {i : Bool} : It1 0 (.bl i) := ⟨rfl, by simp [bI, PyData.depth], rfl⟩
theorem wJ : It1 0 .non := ⟨rfl, by simp [bI, PyData.depth], rfl⟩
end FD
namespace G
open PySem PySem.Spec PyProof.Rows L2 FD
theorem yU {n : Nat} {B : FnS} {ds : List Dv} {d : Dv} (h : B (ds.map some ++ List.replicate (n - ds.length) none) = some (.rt d)) : pW n B ds = some (.ok d) := by unfold pW; rw [h]
theorem z6 {n : Nat} {B : FnS} {ds : List Dv} {c : Nat} (h : B (ds.map some ++ List.replicate (n - ds.length) none) = some (.exc c)) : pW n B ds = some (.exc c) := by unfold pW; rw [h]
theorem cE (F : List Dv → Option (Rs Dv)) {n : Nat} {g : FnA} {ρ : Ev} {ds : List Dv} {r : Option (Rs Dv)} (h : g ρ = some (.ok ds)) (hl : ds.length = n) (hF : F ds = r) : gU F n g ρ = r := by
 unfold gU
 rw [h, ← hF]
 exact if_pos hl
theorem z7 {a b : FnS} {ρ : Ev} {c : Nat} (h : a ρ = some (.exc c)) : aT a b ρ = some (.exc c) := by unfold aT; rw [h]; rfl
theorem yV {c : FnB} {f : FnS} {g : FnS} {ρ : Ev} {k : Nat} (h : c ρ = some (.ok true)) (hf : f ρ = some (.exc k)) : bL c f g ρ = some (.exc k) := by rw [wf h, hf]
theorem sB (ns : List Int) (hl : ns.length ≤ 63) (k : Int) : ∃ c, aU [.scr ns, .int k] = some (.ok (.int c)) := by
 cases ns with
 | nil => exact ⟨7 * k, by kernel_rfl⟩
 | cons n r =>
  have h0 : 0 < (n :: r).length := by simp
  have h1 : (0 : Int) < ((n :: r).length : Int) := by omega
  have h2 : ((n :: r).length : Int) < 1073741824 := by omega
  have h3 : 0 ≤ k % ((n :: r).length : Int) := Int.emod_nonneg _ (by omega)
  have h4 : k % ((n :: r).length : Int) < ((n :: r).length : Int) := Int.emod_lt_of_pos _ h1
  have h5 : (k % ((n :: r).length : Int)).toNat < (n :: r).length := by omega
  refine ⟨(n :: r)[(k % ((n :: r).length : Int)).toNat] + 6553 * (k / ((n :: r).length : Int)), ?_⟩
  have hat : atD (n :: r) (k % ((n :: r).length : Int)) = some (n :: r)[(k % ((n :: r).length : Int)).toNat] := by
   unfold atD
   rw [if_pos h3, List.getElem?_eq_getElem h5]
  have hm : cK (.int k) (.int ((n :: r).length : Int)) = some (.ok (.int (k % ((n :: r).length : Int)))) := by
   show (if 0 < ((n :: r).length : Int) then _ else _) = _
   rw [if_pos h1]
  have hd : cX (.int k) (.int ((n :: r).length : Int)) = some (.ok (.int (k / ((n :: r).length : Int)))) := by
   show (if 0 < ((n :: r).length : Int) ∧ ((n :: r).length : Int) < 1073741824 then _ else _) = _
   rw [if_pos ⟨h1, h2⟩]
  have hi : ixD (.scr (n :: r)) (.int (k % ((n :: r).length : Int))) = some (.ok (.int (n :: r)[(k % ((n :: r).length : Int)).toNat])) := by
   show (match atD (n :: r) (k % ((n :: r).length : Int)) with | some d => _ | none => _) = _
   rw [hat]
  show (match bA [some (.scr (n :: r)), some (.int k)] with | some (.nx _) => _ | some (.rt d) => _ | _ => _) = _
  have e : bA [some (.scr (n :: r)), some (.int k)] = fN (bnd (bnd (cK (.int k) (.int ((n :: r).length : Int))) fun i => ixD (.scr (n :: r)) i) fun x => bnd (bnd (cX (.int k) (.int ((n :: r).length : Int))) fun q => dh (.int 6553) q) fun y => cJ x y) fun d => some (.rt d) := by kernel_rfl
  rw [e, hm, hd]
  show (match fN (bnd (ixD (.scr (n :: r)) (.int (k % ((n :: r).length : Int)))) fun x => _) _ with | some (.nx _) => _ | some (.rt d) => _ | _ => _) = _
  rw [hi]
  kernel_rfl
def dr1 (c k : Int) : Int := (c % 2147483563 * 69069 + 104723 * (k + 1)) % 2147483563
def dr2 (c : Int) : Int := (c * c + c / 3) % 2147483399
def dr3 (c m : Int) : Int := (c * c + c / 7) % 2147483647 / 11 % m
theorem ie {i j : Int} (h : (-18446744073709551616 < i ∧ i < 18446744073709551616) ∨ (-18446744073709551616 < j ∧ j < 18446744073709551616)) : dh (.int i) (.int j) = some (.ok (.int (i * j))) := by
 show (if _ then _ else _) = _
 rw [if_pos h]
theorem fF {i j : Int} (h : 0 < j) : cK (.int i) (.int j) = some (.ok (.int (i % j))) := by
 show (if _ then _ else _) = _
 rw [if_pos h]
theorem bG (ns : List Int) (hl : ns.length ≤ 63) (k m : Int) (hm : 0 < m) : ∃ d : Int, 0 ≤ d ∧ d < m ∧ au [.scr ns, .int k, .int m] = some (.ok (.int d)) := by
 obtain ⟨c, hc⟩ := sB ns hl k
 refine ⟨dr3 (dr2 (dr1 c k)) m, Int.emod_nonneg _ (by omega), Int.emod_lt_of_pos _ hm, ?_⟩
 have b1 : 0 ≤ dr1 c k ∧ dr1 c k < 2147483563 := ⟨Int.emod_nonneg _ (by omega), Int.emod_lt_of_pos _ (by omega)⟩
 have b2 : 0 ≤ dr2 (dr1 c k) ∧ dr2 (dr1 c k) < 2147483399 := ⟨Int.emod_nonneg _ (by omega), Int.emod_lt_of_pos _ (by omega)⟩
 have b0 : 0 ≤ c % 2147483563 ∧ c % 2147483563 < 2147483563 := ⟨Int.emod_nonneg _ (by omega), Int.emod_lt_of_pos _ (by omega)⟩
 show dD 4 aV [.scr ns, .int k, .int m] = _
 have s1 : (ay aU 2 (aa (ae 0) (aa (ae 1) al))) [some (.scr ns), some (.int k), some (.int m), none] = some (.ok (.int c)) := by
  show (match aU [.scr ns, .int k] with | some (.ok d) => (some (.ok d) : Option (Rs Dv)) | _ => none) = _
  rw [hc]
 have e1 : (bZ 3 (f2 cK (f2 cJ (f2 dh (f2 cK (ay aU 2 (aa (ae 0) (aa (ae 1) al))) (fC (.int 2147483563))) (fC (.int 69069))) (f2 dh (fC (.int 104723)) (f2 cJ (ae 1) (fC (.int 1))))) (fC (.int 2147483563)))) [some (.scr ns), some (.int k), some (.int m), none] = some (.nx [some (.scr ns), some (.int k), some (.int m), some (.int (dr1 c k))]) := by
  show fN (bnd (bnd (bnd (bnd ((ay aU 2 (aa (ae 0) (aa (ae 1) al))) [some (.scr ns), some (.int k), some (.int m), none]) fun x => cK x (.int 2147483563)) fun x => dh x (.int 69069)) fun x => bnd (dh (.int 104723) (.int (k + 1))) fun y => cJ x y) fun x => cK x (.int 2147483563)) (fun d => some (.nx [some (.scr ns), some (.int k), some (.int m), some d])) = _
  rw [s1]
  show fN (bnd (bnd (bnd (cK (.int c) (.int 2147483563)) fun x => dh x (.int 69069)) fun x => bnd (dh (.int 104723) (.int (k + 1))) fun y => cJ x y) fun x => cK x (.int 2147483563)) _ = _
  rw [fF (by omega), ie (i := 104723) (.inl (by omega))]
  show fN (bnd (bnd (dh (.int (c % 2147483563)) (.int 69069)) fun x => cJ x (.int (104723 * (k + 1)))) fun x => cK x (.int 2147483563)) _ = _
  rw [ie (.inl (by omega))]
  show fN (cK (.int (c % 2147483563 * 69069 + 104723 * (k + 1))) (.int 2147483563)) _ = _
  rw [fF (by omega)]
  rfl
 generalize hd1 : dr1 c k = d1 at *
 have e2 : (bZ 3 (f2 cK (f2 cJ (f2 dh (ae 3) (ae 3)) (f2 cX (ae 3) (fC (.int 3)))) (fC (.int 2147483399)))) [some (.scr ns), some (.int k), some (.int m), some (.int d1)] = some (.nx [some (.scr ns), some (.int k), some (.int m), some (.int (dr2 d1))]) := by
  show fN (bnd (bnd (dh (.int d1) (.int d1)) fun x => cJ x (.int (d1 / 3))) fun x => cK x (.int 2147483399)) (fun d => some (.nx [some (.scr ns), some (.int k), some (.int m), some d])) = _
  rw [ie (.inl (by omega))]
  show fN (cK (.int (d1 * d1 + d1 / 3)) (.int 2147483399)) _ = _
  rw [fF (by omega)]
  rfl
 generalize hd2 : dr2 d1 = d2 at *
 have e3 : (bD (f2 cK (f2 cX (f2 cK (f2 cJ (f2 dh (ae 3) (ae 3)) (f2 cX (ae 3) (fC (.int 7)))) (fC (.int 2147483647))) (fC (.int 11))) (ae 2))) [some (.scr ns), some (.int k), some (.int m), some (.int d2)] = some (.rt (.int (dr3 d2 m))) := by
  show fN (bnd (bnd (bnd (bnd (dh (.int d2) (.int d2)) fun x => cJ x (.int (d2 / 7))) fun x => cK x (.int 2147483647)) fun x => cX x (.int 11)) fun x => cK x (.int m)) (fun d => some (.rt d)) = _
  rw [ie (.inl (by omega))]
  show fN (bnd (bnd (cK (.int (d2 * d2 + d2 / 7)) (.int 2147483647)) fun x => cX x (.int 11)) fun x => cK x (.int m)) _ = _
  rw [fF (by omega)]
  show fN (cK (.int ((d2 * d2 + d2 / 7) % 2147483647 / 11)) (.int m)) _ = _
  rw [fF hm]
  rfl
 show (match aV [some (.scr ns), some (.int k), some (.int m), none] with | some (.nx _) => _ | some (.rt d) => _ | _ => _) = _
 have e : aV [some (.scr ns), some (.int k), some (.int m), none] = some (.rt (.int (dr3 d2 m))) := by
  show sq ((bZ 3 _) _) (fun ρ => sq ((bZ 3 _) ρ) _) = _
  rw [e1]
  show sq ((bZ 3 _) [some (.scr ns), some (.int k), some (.int m), some (.int d1)]) _ = _
  rw [e2]
  exact e3
 rw [e]
end G
namespace G
namespace PT
open PySem PySem.Spec PyProof.Rows L2 FD PySem.Builtin.Str
theorem ig {x y : Str} (h : x.cps.toList = y.cps.toList) : x = y := by
 cases x; cases y
 exact congrArg Str.mk (Array.toList_inj.mp h)
theorem gq (x : Str) (i j : Nat) : (strSub x i j).cps.toList = (x.cps.toList.drop i).take (j - i) := by
 unfold strSub
 simp [Array.toList_extract]
theorem bu (x : Str) (c : Nat) : (c ∉ x.cps.toList ∧ Txt.partition x ⟨#[c]⟩ = (x, Str.empty, Str.empty)) ∨ ∃ a b : List Nat, x.cps.toList = a ++ c :: b ∧ c ∉ a ∧ Txt.partition x ⟨#[c]⟩ = (⟨a.toArray⟩, ⟨#[c]⟩, ⟨b.toArray⟩) := by
 rcases StrLaws.occ_head x ⟨#[c]⟩ 1 (Nat.le_refl 1) with ⟨h0, hn⟩ | ⟨i, r, h0, hi, hn⟩
 · refine .inl ⟨fun hm => ?_, by unfold Txt.partition; rw [h0]⟩
   obtain ⟨j, hj⟩ := List.getElem?_of_mem hm
   exact hn j ((StrLaws.subAt_one x c j).mpr hj)
 · have hm := (StrLaws.subAt_one x c i).mp hi
   obtain ⟨hil, hic⟩ := List.getElem?_eq_some_iff.mp hm
   refine .inr ⟨x.cps.toList.take i, x.cps.toList.drop (i + 1), ?_, fun h => ?_, ?_⟩
   · rw [← hic, ← List.drop_eq_getElem_cons hil, List.take_append_drop]
   · obtain ⟨j, hj⟩ := List.getElem?_of_mem h
     have hji : j < i := by
      have := (List.getElem?_eq_some_iff.mp hj).1
      rw [List.length_take] at this
      omega
     rw [List.getElem?_take, if_pos hji] at hj
     exact hn j hji ((StrLaws.subAt_one x c j).mpr hj)
   · unfold Txt.partition
     rw [h0]
     have e1 : strSub x 0 i = ⟨(x.cps.toList.take i).toArray⟩ := ig (by rw [gq]; simp)
     have e2 : strSub x (i + 1) x.length = ⟨(x.cps.toList.drop (i + 1)).toArray⟩ := ig (by
      rw [gq]
      have : x.length = x.cps.toList.length := by simp; rfl
      rw [this]
      show _ = x.cps.toList.drop (i + 1)
      rw [← List.length_drop, List.take_length])
     show (strSub x 0 i, _, strSub x (i + 1) x.length) = _
     rw [e1, e2]
end PT
namespace PT
open PySem PySem.Spec PyProof.Rows L2 FD PySem.Builtin.Str
abbrev bo (b : Bool) : Option (Rs Dv) := some (.ok (.bl b))
def one (c : Nat) : Dv := .str ⟨#[c]⟩
def bT (x y : Str) : Bool := x.cps.toList.all fun c => decide (c ∈ y.cps.toList)
theorem all_map {α : Type} (p : α → Bool) (l : List α) : nW [.lst (l.map fun a => Dv.bl (p a))] = bo (l.all p) := by
 have e : ∀ l : List α, fU (l.map fun a => Dv.bl (p a)) = some (l.map p) := by
  intro l
  induction l with
  | nil => rfl
  | cons a l ih =>
   show (match fU (l.map fun a => Dv.bl (p a)) with | some bs => some (p a :: bs) | none => none) = _
   rw [ih]
   rfl
 show (match fU (l.map fun a => Dv.bl (p a)) with | some bs => some (Rs.ok (Dv.bl (bs.all id))) | none => none) = _
 rw [e l]
 simp [List.all_map]
theorem i8 (c : Nat) (y : Str) : inS ⟨#[c]⟩ y = decide (c ∈ y.cps.toList) := by
 rw [← StrLaws.found_one]
 rfl
theorem wK (c : Nat) (y : Str) : inD (one c) (.str y) = bo (decide (c ∈ y.cps.toList)) := by
 show some (Rs.ok (Dv.bl (inS ⟨#[c]⟩ y))) = _
 have : inS ⟨#[c]⟩ y = decide (c ∈ y.cps.toList) := by
  rw [← StrLaws.found_one]
  rfl
 rw [this]
theorem eA (x : Str) : items (.str x) = some (.ok (x.cps.toList.map one)) := rfl
theorem len_str {x : Str} (hx : x.length ≤ 100000) : b9 [.str x] = some (.ok (.int (x.length : Int))) := by
 show (if x.length ≤ 100000 then some (Rs.ok (Dv.int (x.length : Int))) else none) = _
 rw [if_pos hx]
theorem eV {a b : FnB} {ρ : Ev} {x y : Bool} (ha : a ρ = some (.ok x)) (hb : b ρ = some (.ok y)) : bOr a b ρ = some (.ok (x || y)) := by
 cases x
 · exact (yq ha).trans hb
 · exact u0 ha
theorem dG {a b : FnB} {ρ : Ev} {x y : Bool} (ha : a ρ = some (.ok x)) (hb : b ρ = some (.ok y)) : gJ a b ρ = some (.ok (x && y)) := by
 cases x
 · exact u9 ha
 · exact (u8 ha).trans hb
theorem eM {c : FnB} {d : Dv} {rest : FnS} {ρ : Ev} {b : Bool} (hc : c ρ = some (.ok b)) : aT (bL c (bD (fC d)) (fun ρ => some (.nx ρ))) rest ρ = if b = true then some (.rt d) else rest ρ := by
 unfold aT bL
 rw [hc]
 cases b <;> rfl
theorem mU {x y : Str} {lo hi : Int} (hx : x.length ≤ 100000) : av [.str x, .str y, .int lo, .int hi] = bo (decide (lo ≤ (x.length : Int)) && decide ((x.length : Int) ≤ hi) && bT x y) := by
 refine bO ?_
 show bf [some (.str x), some (.str y), some (.int lo), some (.int hi)] = _
 unfold bf
 have c1 : (eQ (fB (f1 (nu eS) (ae 0)))) [some (.str x), some (.str y), some (.int lo), some (.int hi)] = some (.ok false) := rfl
 have l1 : fB1 b9 (aa (ae 0) al) [some (.str x), some (.str y), some (.int lo), some (.int hi)] = some (.ok (.int (x.length : Int))) := (bx (ac (x := .str x) rfl ai)).trans (len_str hx)
 have c2 := eV (a := fB (f2 ltX (fB1 b9 (aa (ae 0) al)) (ae 2))) (b := fB (f2 gtD (fB1 b9 (aa (ae 0) al)) (ae 3))) (x := decide ((x.length : Int) < lo)) (y := decide ((x.length : Int) > hi)) (aK ((aq (x := .int (x.length : Int)) (y := .int lo) l1 rfl).trans rfl)) (aK ((aq (x := .int (x.length : Int)) (y := .int hi) l1 rfl).trans rfl))
 rw [az (cA c1), eM c2]
 have e := dZ (cs := [("signs", 1)]) (src := b7 (ae 0)) (elt := f2 inD (ae 0) (ae 1)) (ρ := [some (.str x), some (.str y), some (.int lo), some (.int hi)]) one (fun c => Dv.bl (decide (c ∈ y.cps.toList))) (l := x.cps.toList) rfl (by rw [Array.length_toList]; exact hx) fun c _ => (aq (x := one c) (y := .str y) rfl rfl).trans (wK c y)
 have e2 := (bx (g := nW) (ac e ai)).trans (all_map _ _)
 by_cases h1 : (x.length : Int) < lo
 · rw [if_pos (by simp [h1])]
   have : decide (lo ≤ (x.length : Int)) = false := by simp; omega
   rw [this]
   rfl
 · by_cases h2 : (x.length : Int) > hi
   · rw [if_pos (by simp [h2])]
     have : decide ((x.length : Int) ≤ hi) = false := by simp; omega
     rw [this, Bool.and_false]
     rfl
   · rw [if_neg (by simp [h1]; omega)]
     have z1 : decide (lo ≤ (x.length : Int)) = true := by simp; omega
     have z2 : decide ((x.length : Int) ≤ hi) = true := by simp; omega
     rw [z1, z2]
     exact bw e2
end PT
namespace PT
open PySem PySem.Spec PyProof.Rows L2 FD PySem.Builtin.Str
theorem ii (sep : Str) : ∀ (rest : List Str) (acc : Array Nat), (rest.foldl (fun acc p => acc ++ sep.cps ++ p.cps) acc).toList = acc.toList ++ rest.flatMap fun p => sep.cps.toList ++ p.cps.toList
 | [], acc => by simp
 | p :: r, acc => by
  rw [List.foldl_cons, ii sep r]
  simp [List.flatMap_cons]
theorem bU (sep p : Str) (r : List Str) : (glued sep (p :: r)).cps.toList = p.cps.toList ++ r.flatMap fun p => sep.cps.toList ++ p.cps.toList := ii sep r p.cps
theorem ba (x y : Str) : glued y (Txt.split x y) = x := by
 have h1 : glued y [x] = x := rfl
 unfold Txt.split
 split
 · exact h1
 · split
   · exact h1
   · exact StrLaws.glued_between_self x y _
theorem cD (x y : Str) : ∃ p r, Txt.split x y = p :: r := by
 unfold Txt.split
 split
 · exact ⟨_, _, rfl⟩
 · split
   · exact ⟨_, _, rfl⟩
   · unfold partsBetween
     cases occurrences x y 0 x.length (x.length + 1) <;> exact ⟨_, _, rfl⟩
theorem mV {x y p : Str} (hp : p ∈ Txt.split x y) {c : Nat} (hc : c ∈ p.cps.toList) : c ∈ x.cps.toList := by
 obtain ⟨q, r, e⟩ := cD x y
 have h := ba x y
 rw [e] at h hp
 rw [← h, bU]
 rcases List.mem_cons.mp hp with rfl | hp
 · exact List.mem_append_left _ hc
 · exact List.mem_append_right _ (List.mem_flatMap.mpr ⟨p, hp, List.mem_append_right _ hc⟩)
theorem mW {x y : Str} {c : Nat} (hc : c ∈ x.cps.toList) (hy : c ∉ y.cps.toList) : ∃ p ∈ Txt.split x y, c ∈ p.cps.toList := by
 obtain ⟨q, r, e⟩ := cD x y
 have h := ba x y
 rw [e] at h
 rw [← h, bU] at hc
 rw [e]
 rcases List.mem_append.mp hc with h1 | h1
 · exact ⟨q, List.mem_cons_self, h1⟩
 · obtain ⟨p, hp, h2⟩ := List.mem_flatMap.mp h1
   rcases List.mem_append.mp h2 with h3 | h3
   · exact absurd h3 hy
   · exact ⟨p, List.mem_cons_of_mem _ hp, h3⟩
theorem c8 {x y : Str} (hy : y.length = 1) : (Txt.split x y).length ≤ x.length + 1 := by
 have h := size_glued y (Txt.split x y)
 rw [ba, hy] at h
 omega
theorem qk : ∀ {l : List Nat} {a : Nat}, a ∈ l → a ≤ l.sum
 | b :: l, a, h => by
  rw [List.sum_cons]
  rcases List.mem_cons.mp h with rfl | h
  · omega
  · have := qk h
    omega
theorem gr {x y p : Str} (hp : p ∈ Txt.split x y) : p.length ≤ x.length := by
 have h := size_glued y (Txt.split x y)
 rw [ba] at h
 have := qk (List.mem_map.mpr ⟨p, hp, rfl⟩ : p.length ∈ (Txt.split x y).map (·.length))
 omega
theorem eN {x y : Str} (hx : x.length ≤ 1000) (hy : y.length = 1) : bN x [.str y] = some (.ok (.lst ((Txt.split x y).map Dv.str))) := by
 have := c8 (x := x) hy
 show (if y.length ≠ 0 ∧ x.length ≤ 100000 ∧ (Txt.split x y).length ≤ 100000 then some (Rs.ok (Dv.lst ((Txt.split x y).map Dv.str))) else none) = _
 rw [if_pos ⟨by omega, by omega, by omega⟩]
end PT
namespace PT
open PySem PySem.Spec PyProof.Rows L2 FD PySem.Builtin.Str
def okY (o : Option (Rs Dv)) : Bool := match o with
 | some (.ok (.bl true)) => true
 | _ => false
theorem jW (b : Bool) : okY (bo b) = b := by cases b <;> rfl
def nmB (x : Str) : Bool := okY (bg [.str x])
def ptB (x : Str) : Bool := okY (bh [.str x])
def lbB (x : Str) : Bool := okY (a7 [.str x])
def mtB (x : Str) : Bool := okY (ap [.str x])
theorem jX {f g : FnE} {ρ : Ev} {a b : Bool} (hf : f ρ = bo a) (hg : g ρ = bo b) : kB f g ρ = bo (a && b) := by
 cases a
 · exact vb hf
 · exact (vd hf).trans hg
theorem mX {f : FnE} {ρ : Ev} {a : Bool} (hf : f ρ = bo a) : sS f ρ = bo (!a) := by
 unfold sS
 rw [hf]
 rfl
theorem sC {x y : Str} (h : 32 ∈ x.cps.toList) (hy : 32 ∉ y.cps.toList) : bT x y = false := by
 unfold bT
 rw [List.all_eq_false]
 exact ⟨32, h, by simpa using hy⟩
theorem mY (F : List Dv → Option (Rs Dv)) {f g k m : FnE} {ρ : Ev} {a b c d e : Dv} (h : f ρ = some (.ok a)) (h' : g ρ = some (.ok b)) (h'' : k ρ = some (.ok c)) (h3 : m ρ = some (.ok d)) (hF : F [a, b, c, d] = some (.ok e)) : ay F 4 (aa f (aa g (aa k (aa m al)))) ρ = some (.ok e) :=
 bb (ac h (ac h' (ac h'' (ac h3 ai)))) rfl hF
theorem wL {x : Str} (hx : x.length ≤ 1000) : a7 [.str x] = bo (lbB x) ∧ (32 ∈ x.cps.toList → lbB x = false) := by
 have key : ∃ b, a7 [.str x] = bo b ∧ (32 ∈ x.cps.toList → b = false) := by
  have t := mU (x := x) (y := Str.ofString "abcdefghijklmnopqrstuvwxyz0123456789-") (lo := 1) (hi := 8) (by omega)
  generalize hb : (decide ((1 : Int) ≤ (x.length : Int)) && decide ((x.length : Int) ≤ 8) && bT x (Str.ofString "abcdefghijklmnopqrstuvwxyz0123456789-")) = b at t
  have c1 : (eQ (fB (ay av 4 (aa (ae 0) (aa (fC (.str "abcdefghijklmnopqrstuvwxyz0123456789-")) (aa (fC (.int 1)) (aa (fC (.int 8)) al))))))) [some (.str x)] = some (.ok (!b)) := dj (aK (mY av rfl rfl rfl rfl t))
  refine ⟨b && (!Txt.startswith x (Str.ofString "-") && !Txt.endswith x (Str.ofString "-")), bO ?_, fun h => ?_⟩
  · show bP [some (.str x)] = _
    unfold bP
    rw [eM c1]
    cases b
    · rfl
    · rw [Bool.true_and]
      exact bw (jX (a := !Txt.startswith x (Str.ofString "-")) (b := !Txt.endswith x (Str.ofString "-")) (mX (a := Txt.startswith x (Str.ofString "-")) rfl) (mX (a := Txt.endswith x (Str.ofString "-")) rfl))
  · rw [← hb, sC h (by decide), Bool.and_false, Bool.false_and]
 obtain ⟨b, e, h⟩ := key
 have : lbB x = b := by unfold lbB; rw [e, jW]
 rw [this]
 exact ⟨e, h⟩
theorem sD {x : Str} (hx : x.length ≤ 1000) : bh [.str x] = bo (ptB x) ∧ (32 ∈ x.cps.toList → ptB x = false) := by
 have key : ∃ b, bh [.str x] = bo b ∧ (32 ∈ x.cps.toList → b = false) := by
  have t := mU (x := x) (y := Str.ofString "abcdefghijklmnopqrstuvwxyz0123456789-_./") (lo := 1) (hi := 20) (by omega)
  refine ⟨(decide ((1 : Int) ≤ (x.length : Int)) && decide ((x.length : Int) ≤ 20) && bT x (Str.ofString "abcdefghijklmnopqrstuvwxyz0123456789-_./")) && Txt.startswith x (Str.ofString "/"), bO ?_, fun h => ?_⟩
  · show cq [some (.str x)] = _
    unfold cq
    exact bw (jX (b := Txt.startswith x (Str.ofString "/")) (mY av rfl rfl rfl rfl t) rfl)
  · rw [sC h (by decide), Bool.and_false, Bool.false_and]
 obtain ⟨b, e, h⟩ := key
 have : ptB x = b := by unfold ptB; rw [e, jW]
 rw [this]
 exact ⟨e, h⟩
theorem mZ {x : Str} (hx : x.length ≤ 1000) : ap [.str x] = bo (mtB x) ∧ mtB x = (decide ((1 : Int) ≤ (x.length : Int)) && decide ((x.length : Int) ≤ 4) && bT x (Str.ofString "0123456789")) := by
 have t := mU (x := x) (y := Str.ofString "0123456789") (lo := 1) (hi := 4) (by omega)
 have e : ap [.str x] = bo (decide ((1 : Int) ≤ (x.length : Int)) && decide ((x.length : Int) ≤ 4) && bT x (Str.ofString "0123456789")) := by
  refine bO ?_
  show aE [some (.str x)] = _
  unfold aE
  exact bw (mY av rfl rfl rfl rfl t)
 have h : mtB x = (decide ((1 : Int) ≤ (x.length : Int)) && decide ((x.length : Int) ≤ 4) && bT x (Str.ofString "0123456789")) := by unfold mtB; rw [e, jW]
 exact ⟨by rw [h]; exact e, h⟩
end PT
namespace PT
open PySem PySem.Spec PyProof.Rows L2 FD PySem.Builtin.Str
theorem sE {P : List Str} (h : P ≠ []) : ∃ p ∈ P, ixD (.lst (P.map Dv.str)) (.int (-1)) = some (.ok (.str p)) := by
 have h0 : 0 < P.length := List.length_pos_iff.mpr h
 refine ⟨P[P.length - 1], List.getElem_mem _, ?_⟩
 show (match atD (P.map Dv.str) (-1) with | some d => some (Rs.ok d) | none => none) = _
 unfold atD
 rw [if_neg (by omega), if_pos (by rw [List.length_map]; omega)]
 have e : ((-1 : Int) + ((P.map Dv.str).length : Int)).toNat = P.length - 1 := by rw [List.length_map]; omega
 rw [e, List.getElem?_map, List.getElem?_eq_getElem (by omega)]
 rfl
theorem i9 {h : Str → List Dv → Option (Rs Dv)} {f : FnE} {g : FnA} {ρ : Ev} {x : Str} {ds : List Dv} (hf : f ρ = some (.ok (.str x))) (hg : g ρ = some (.ok ds)) : fM h f g ρ = h x ds := by
 unfold fM
 rw [hf]
 show bnd (g ρ) _ = _
 rw [hg]
 rfl
theorem sF {x : Str} (hx : x.length ≤ 1000) : bg [.str x] = bo (nmB x) ∧ (32 ∈ x.cps.toList → nmB x = false) := by
 have key : ∃ b, bg [.str x] = bo b ∧ (32 ∈ x.cps.toList → b = false) := by
  obtain ⟨P, hP⟩ : ∃ P, P = Txt.split x (Str.ofString ".") := ⟨_, rfl⟩
  have y1 : (Str.ofString ".").length = 1 := by kernel_rfl
  have sl := c8 (x := x) y1
  have s1 := eN hx y1
  rw [← hP] at s1 sl
  have hne : P ≠ [] := by
   obtain ⟨p, r, e⟩ := cD x (Str.ofString ".")
   rw [hP, e]; simp
  have hlen : ∀ p ∈ P, p.length ≤ 1000 := fun p hp => by
   rw [hP] at hp
   have := gr hp
   omega
  obtain ⟨q, hq, eq⟩ := sE hne
  have t := mU (x := q) (y := Str.ofString "0123456789") (lo := 1) (hi := 8) (by have := hlen q hq; omega)
  generalize (decide ((1 : Int) ≤ (q.length : Int)) && decide ((q.length : Int) ≤ 8) && bT q (Str.ofString "0123456789")) = d at t
  have v1 : fM (bN) (ae 0) (aa (fC (.str ".")) al) [some (.str x), none] = some (.ok (.lst (P.map Dv.str))) := (i9 (x := x) rfl (ac (x := .str ".") rfl ai)).trans s1
  have l1 : fB1 b9 (aa (ae 1) al) [some (.str x), some (.lst (P.map Dv.str))] = some (.ok (.int (P.length : Int))) := (bx (ac (x := .lst (P.map Dv.str)) rfl ai)).trans (by
   show some (Rs.ok (Dv.int ((P.map Dv.str).length : Int))) = _
   rw [List.length_map])
  have e := dZ (cs := []) (src := b7 (ae 1)) (elt := ay a7 1 (aa (ae 0) al)) (ρ := [some (.str x), some (.lst (P.map Dv.str))]) Dv.str (fun p => Dv.bl (lbB p)) (l := P) rfl (by omega) fun p hp => ci a7 rfl (wL (hlen p hp)).1
  have e2 := (bx (g := nW) (ac e ai)).trans (all_map _ _)
  have c2 := eV (a := fB (f2 gtD (fB1 b9 (aa (ae 1) al)) (fC (.int 5)))) (aK ((aq (x := .int (P.length : Int)) (y := .int 5) l1 rfl).trans (show gtD (.int (P.length : Int)) (.int 5) = bo (decide ((P.length : Int) > 5)) from rfl))) (dj (aK e2))
  refine ⟨!(decide ((P.length : Int) > 5) || !P.all lbB) && !d, bO ?_, fun h => ?_⟩
  · show ck [some (.str x), none] = _
    unfold ck
    have c1 : (eQ (fB (f1 (nu eS) (ae 0)))) [some (.str x), none] = some (.ok false) := rfl
    rw [az (cA c1), az (aJ (ρ' := [some (.str x), some (.lst (P.map Dv.str))]) v1 rfl), eM c2]
    generalize (decide ((P.length : Int) > 5) || !P.all lbB) = b
    cases b
    · exact bw (mX (a := d) (mY av ((aq (x := .lst (P.map Dv.str)) (y := .int (-1)) rfl rfl).trans eq) rfl rfl rfl t))
    · rfl
  · obtain ⟨p, hp, hc⟩ := mW (y := Str.ofString ".") h (by decide)
    rw [← hP] at hp
    have : P.all lbB = false := by
     rw [List.all_eq_false]
     exact ⟨p, hp, by rw [(wL (hlen p hp)).2 hc]; decide⟩
    rw [this, Bool.not_false, Bool.or_true]
    rfl
 obtain ⟨b, e, h⟩ := key
 have : nmB x = b := by unfold nmB; rw [e, jW]
 rw [this]
 exact ⟨e, h⟩
end PT
namespace PT
open PySem PySem.Spec PyProof.Rows L2 FD PySem.Builtin.Str
def Sg (x : Str) : Prop := ∀ c ∈ x.cps.toList, c < 0x110000
def dgs : Str := Str.ofString "0123456789"
theorem o9 : dgs.cps.toList = [48, 49, 50, 51, 52, 53, 54, 55, 56, 57] := by kernel_rfl
theorem wN {c : Nat} (h : c < 0x110000) : It1 0 (one c) := mT (by
 show (#[c] : Array Nat).all (· < 0x110000) = true
 simp [h])
theorem jY {l : List Nat} (h : ∀ c ∈ l, c < 0x110000) : neX (.lst (l.map one)) (.lst []) = bo (!l.isEmpty) := by
 cases l with
 | nil => kernel_rfl
 | cons c r =>
  have i2 : okP (.lst ((c :: r).map one)) = true := (wH (k := 0) fun d hd => by
   obtain ⟨a, ha, rfl⟩ := List.mem_map.mp hd
   exact wN (h a ha)).okP (by omega)
  have i3 : okP (.lst []) = true := by kernel_rfl
  show neX (.lst ((c :: r).map one)) (.lst []) = bo true
  unfold neX
  rw [show eqS (.lst ((c :: r).map one)) (.lst []) = none from rfl, i2, i3]
  simp [bI, toPys, PyData.eqv, PyData.eqvAll]
def mtV (x : Str) : Int := (PySem.intText? x).getD 0
theorem ql {x : Str} (h : mtB x = true) (hx : x.length ≤ 1000) : rM [.str x] = some (.ok (.int (mtV x))) := by
 rw [(mZ hx).2] at h
 simp only [Bool.and_eq_true, decide_eq_true_eq] at h
 obtain ⟨⟨h1, h2⟩, h3⟩ := h
 have hd : PySem.NumText.AllDigits x.cps.toList := by
  intro c hc
  have := List.all_eq_true.mp h3 c hc
  rw [decide_eq_true_eq] at this
  have : c ∈ dgs.cps.toList := this
  rw [o9] at this
  simp only [List.mem_cons, List.not_mem_nil, or_false] at this
  omega
 have hl : x.length = x.cps.toList.length := by rw [Array.length_toList]; rfl
 have hn : x.cps.toList ≠ [] := fun z => by
  rw [z] at hl
  simp at hl
  omega
 have e := PySem.intText_digits hd hn (by omega)
 show (if x.length ≤ 640 then (match PySem.intText? x with | some n => some (Rs.ok (Dv.int n)) | none => none) else none) = _
 unfold mtV
 rw [if_pos (by omega), e]
 rfl
theorem yW {x : Str} (hx : x.length ≤ 1000) (hs : Sg x) : ax [.str x] = some (.ok (if mtB x = true then .int (mtV x) else .non)) := by
 refine bO ?_
 show aZ [some (.str x)] = _
 unfold aZ
 have l1 : fB1 b9 (aa (ae 0) al) [some (.str x)] = some (.ok (.int (x.length : Int))) := (bx (ac (x := .str x) rfl ai)).trans (len_str (by omega))
 have e := ic (cs := []) (src := b7 (ae 0)) (tst := fB (f2 bE (ae 0) (fC (.str "0123456789")))) (elt := ae 0) (ρ := [some (.str x)]) one (fun c => !decide (c ∈ dgs.cps.toList)) one (l := x.cps.toList) rfl (by rw [Array.length_toList]; exact Nat.le_trans hx (by omega)) fun c _ => ⟨aK ((aq (x := one c) (y := .str "0123456789") rfl rfl).trans (by
  show some (Rs.ok (Dv.bl (!inS ⟨#[c]⟩ dgs))) = _
  rw [i8])), rfl⟩
 have n1 := jY (l := x.cps.toList.filter fun c => !decide (c ∈ dgs.cps.toList)) fun c hc => hs c (List.mem_filter.mp hc).1
 have c3 : fB (f2 neX (b8 [] (b7 (ae 0)) (some (fB (f2 bE (ae 0) (fC (.str "0123456789"))))) (ae 0)) (gx al)) [some (.str x)] = some (.ok (!bT x dgs)) := by
  refine aK (((aq (g := neX) e (lC ai (by show 0 ≤ 100000; decide))).trans n1).trans ?_)
  have : (x.cps.toList.filter fun c => !decide (c ∈ dgs.cps.toList)).isEmpty = bT x dgs := by
   rw [Bool.eq_iff_iff, List.isEmpty_iff, List.filter_eq_nil_iff]
   unfold bT
   rw [List.all_eq_true]
   constructor
   · intro h c hc
     have := h c hc
     simpa using this
   · intro h c hc
     have := h c hc
     simpa using this
  rw [this]
 have c1 : fB (f2 eqX (ae 0) (fC (.str ""))) [some (.str x)] = some (.ok (seq x (Str.ofString ""))) := aK ((aq (x := .str x) (y := .str "") rfl rfl).trans rfl)
 have c2 : fB (f2 gtD (fB1 b9 (aa (ae 0) al)) (fC (.int 4))) [some (.str x)] = some (.ok (decide ((x.length : Int) > 4))) := aK ((aq (x := .int (x.length : Int)) (y := .int 4) l1 rfl).trans rfl)
 rw [eM (eV c1 (eV c2 c3))]
 have hm := (mZ hx).2
 have hl : x.length = x.cps.toList.length := by rw [Array.length_toList]; rfl
 have hseq : seq x (Str.ofString "") = decide (x.length = 0) := by
  unfold seq
  rw [show (Str.ofString "").cps.toList = [] from rfl, hl]
  cases x.cps.toList <;> simp
 have hb : (seq x (Str.ofString "") || (decide ((x.length : Int) > 4) || !bT x dgs)) = !mtB x := by
  rw [hm, hseq]
  show _ = !(_ && _ && bT x dgs)
  cases bT x dgs
  · simp
  · simp only [Bool.not_true, Bool.or_false, Bool.and_true]
    rw [Bool.eq_iff_iff]
    simp
    omega
 rw [hb]
 cases h : mtB x
 · rfl
 · exact bw ((bx (ac (x := .str x) rfl ai)).trans (ql h hx))
end PT
namespace PT
open PySem PySem.Spec PyProof.Rows L2 FD PySem.Builtin.Str
theorem dt (x y : Str) : Txt.startswith x y = true ↔ ∃ b, x.cps.toList = y.cps.toList ++ b := by
 unfold Txt.startswith subAt
 rw [Bool.and_eq_true, decide_eq_true_eq, beq_iff_eq]
 have hx : x.length = x.cps.size := rfl
 have hy : y.length = y.cps.size := rfl
 constructor
 · rintro ⟨h1, h2⟩
   refine ⟨x.cps.toList.drop y.length, ?_⟩
   have : (x.cps.extract 0 (0 + y.length)).toList = y.cps.toList := by rw [h2]
   rw [Array.toList_extract] at this
   simp only [Nat.zero_add, List.extract_eq_drop_take, List.drop_zero, Nat.sub_zero] at this
   rw [← this, List.take_append_drop]
 · rintro ⟨b, h⟩
   have hl : x.cps.size = y.cps.size + b.length := by
    have := congrArg List.length h
    simpa using this
   refine ⟨by omega, Array.toList_inj.mp ?_⟩
   rw [Array.toList_extract]
   simp only [Nat.zero_add, List.extract_eq_drop_take, List.drop_zero, Nat.sub_zero]
   rw [h, hy]
   have : y.cps.size = y.cps.toList.length := by simp
   rw [this, List.take_left']
   rfl
theorem d4 {c : Nat} : ∀ {a a' b b' : List Nat}, a ++ c :: b = a' ++ c :: b' → c ∉ a → c ∉ a' → a = a' ∧ b = b'
 | [], [], b, b', h, _, _ => by simpa using h
 | [], x :: a', b, b', h, _, h2 => by
  simp only [List.nil_append, List.cons_append, List.cons.injEq] at h
  exact absurd (h.1 ▸ List.mem_cons_self) h2
 | x :: a, [], b, b', h, h1, _ => by
  simp only [List.nil_append, List.cons_append, List.cons.injEq] at h
  exact absurd (h.1 ▸ List.mem_cons_self) h1
 | x :: a, y :: a', b, b', h, h1, h2 => by
  simp only [List.cons_append, List.cons.injEq] at h
  obtain ⟨e1, e2⟩ := d4 h.2 (fun z => h1 (List.mem_cons_of_mem _ z)) (fun z => h2 (List.mem_cons_of_mem _ z))
  exact ⟨by rw [h.1, e1], e2⟩
end PT
namespace PT
open PySem PySem.Spec PyProof.Rows L2 FD PySem.Builtin.Str
theorem sG (n len : Nat) : strSliceIndices (some (n : Int)) none 1 len = (List.range (len - n)).map fun i => n + i := by
 unfold strSliceIndices sliceRange
 simp only [show (1 : Int) > 0 by decide, if_true]
 rw [if_neg (by omega)]
 by_cases h : n < len
 · have e1 : max (0 : Int) (min (n : Int) (len : Int)) = n := by omega
   rw [e1]
   have e2 : (((len : Int) - (n : Int) + 1 - 1) / 1).toNat = len - n := by rw [Int.ediv_one]; omega
   simp only [show (n : Int) < (len : Int) by omega, if_true]
   rw [e2]
   refine List.map_congr_left fun i _ => ?_
   omega
 · have e1 : max (0 : Int) (min (n : Int) (len : Int)) = len := by omega
   rw [e1]
   have e3 : len - n = 0 := by omega
   rw [e3]
   simp
theorem sH {α : Type} (l : List α) (n : Nat) : ((List.range (l.length - n)).map fun i => n + i).filterMap (fun i => l[i]?) = l.drop n := by
 rw [List.filterMap_map]
 apply List.ext_getElem?
 intro i
 have e : (List.range (l.length - n)).filterMap ((fun i => l[i]?) ∘ fun i => n + i) = (List.range (l.drop n).length).filterMap fun i => (l.drop n)[i]? := by
  rw [List.length_drop]
  congr 1
  funext i
  simp
 rw [e]
 have : (List.range (l.drop n).length).filterMap (fun i => (l.drop n)[i]?) = l.drop n := by
  generalize l.drop n = m
  induction m with
  | nil => rfl
  | cons a m ih =>
   rw [List.length_cons, List.range_succ_eq_map, List.filterMap_cons]
   simp only [List.getElem?_cons_zero, List.filterMap_map]
   congr 1
 rw [this]
theorem fG (x : Str) (n : Nat) : (Txt.slice x (some (n : Int)) none).cps.toList = x.cps.toList.drop n := by
 unfold Txt.slice
 rw [sG]
 have hl : x.length = x.cps.toList.length := by rw [Array.length_toList]; rfl
 split
 · rename_i h
   simp only [Bool.and_eq_true, beq_iff_eq, List.length_map, List.length_range] at h
   have h2 : x.length - n = x.length := h.2
   by_cases h0 : n = 0
   · rw [h0]; rfl
   · have : x.cps.toList = [] := List.length_eq_zero_iff.mp (by omega)
     rw [this, List.drop_nil]
 · show (((List.range (x.length - n)).map fun i => n + i).filterMap fun i => x.cps[i]?) = _
   rw [hl, ← sH]
   congr 1
   funext i
   rw [Array.getElem?_toList]
end PT
namespace PT
open PySem PySem.Spec PyProof.Rows L2 FD PySem.Builtin.Str
def wds : List Str := [Str.ofString "for", Str.ofString "under", Str.ofString "until", Str.ofString "lasts"]
def gd (W t : Str) : Option Dv :=
 if seq W (Str.ofString "for") then (if nmB t then some (.str t) else none)
 else if seq W (Str.ofString "under") then (if ptB t then some (.str t) else none)
 else (if mtB t then some (.int (mtV t)) else none)
def rst (s W : Str) : Str := Txt.slice s (some ((W.length + 1 : Nat) : Int)) none
def hit (s W : Str) : Bool := Txt.startswith s (W ++ Str.ofString " ") && !decide (32 ∈ (rst s W).cps.toList)
def c9 (s W : Str) (kv : DK.Kv) : DK.Kv := if hit s W = true then (match gd W (rst s W) with | some d => DK.putD kv W d | none => kv) else kv
theorem eO {c : FnB} {f g : DK.FnD} {ρ : Ev} {kv : DK.Kv} {b : Bool} (h : c ρ = some (.ok b)) : DK.dIf c f g ρ kv = if b = true then f ρ kv else g ρ kv := by
 unfold DK.dIf
 rw [h]
 cases b <;> rfl
theorem gs {fk : FnE} {g : DK.FnV} {ρ : Ev} {kv : DK.Kv} {k : Str} {d : Dv} (hg : g ρ kv = some d) (hk : fk ρ = some (.ok (.str k))) (hl : kv.length < 100000) : DK.dPut fk g ρ kv = some (ρ, DK.putD kv k d) := by
 unfold DK.dPut
 rw [hg, hk]
 show (if kv.length < 100000 then some (ρ, DK.putD kv k d) else none) = _
 rw [if_pos hl]
theorem wO {W : Str} (h : W ∈ wds) : W.length ≤ 5 := by
 unfold wds at h
 simp only [List.mem_cons, List.not_mem_nil, or_false] at h
 rcases h with rfl | rfl | rfl | rfl <;> decide
theorem wP {s W : Str} (h : Sg s) : Sg (rst s W) := fun c hc => by
 unfold rst at hc
 rw [fG] at hc
 exact h c (List.mem_of_mem_drop hc)
theorem d9 {s W : Str} {x3 : Option Dv} {kv : DK.Kv} (hW : W ∈ wds) (hs : s.length ≤ 1000) (hg : Sg s) (hk : kv.length < 100000) :
 ar [none, some (.str s), some (.str W), x3] kv = some ([none, some (.str s), some (.str W), some (.str (rst s W))], c9 s W kv) := by
 have wl := wO hW
 have tl : (rst s W).length ≤ 1000 := Nat.le_trans (Txt.slice_le _ _ _) hs
 have ts := wP (W := W) hg
 obtain ⟨t, ht⟩ : ∃ t, t = rst s W := ⟨_, rfl⟩
 have e1 : nr (ae 1) (aL (f2 cJ (fB1 b9 (aa (ae 2) al)) (fC (.int 1)))) aO [none, some (.str s), some (.str W), x3] = some (.ok (.str t)) := by
  have z : f2 cJ (fB1 b9 (aa (ae 2) al)) (fC (.int 1)) [none, some (.str s), some (.str W), x3] = some (.ok (.int ((W.length + 1 : Nat) : Int))) := (aq (x := .int (W.length : Int)) (y := .int 1) ((bx (ac (x := .str W) rfl ai)).trans (len_str (by omega))) rfl).trans rfl
  unfold nr aL
  show bnd (bnd (f2 cJ (fB1 b9 (aa (ae 2) al)) (fC (.int 1)) [none, some (.str s), some (.str W), x3]) _) _ = _
  rw [z, ht]
  show (if s.length ≤ 100000 then some (Rs.ok (Dv.str (Txt.slice s (some ((W.length + 1 : Nat) : Int)) none))) else none) = _
  rw [if_pos (by omega)]
  rfl
 unfold ar
 show (match DK.dSet 3 _ [none, some (.str s), some (.str W), x3] kv with | some (ρ', kv') => _ | none => none) = _
 have e2 : DK.dSet 3 (nr (ae 1) (aL (f2 cJ (fB1 b9 (aa (ae 2) al)) (fC (.int 1)))) aO) [none, some (.str s), some (.str W), x3] kv = some ([none, some (.str s), some (.str W), some (.str t)], kv) := by
  unfold DK.dSet
  rw [e1]
  rfl
 rw [e2]
 rw [← ht] at tl ts
 obtain ⟨ρ, hρ⟩ : ∃ ρ : Ev, ρ = [none, some (.str s), some (.str W), some (.str t)] := ⟨_, rfl⟩
 have a1 : ae 1 ρ = some (.ok (.str s)) := by rw [hρ]; rfl
 have a2 : ae 2 ρ = some (.ok (.str W)) := by rw [hρ]; rfl
 have a3 : ae 3 ρ = some (.ok (.str t)) := by rw [hρ]; rfl
 rw [← ht, ← hρ]
 have n0 : bE (.str (Str.ofString " ")) (.str t) = bo (!decide (32 ∈ t.cps.toList)) := by
  show some (Rs.ok (Dv.bl (!inS (Str.ofString " ") t))) = _
  have : inS (Str.ofString " ") t = decide (32 ∈ t.cps.toList) := by
   rw [← StrLaws.found_one]
   rfl
  rw [this]
 have w0 : f2 cJ (ae 2) (fC (.str " ")) ρ = some (.ok (.str (W ++ Str.ofString " "))) := (aq (x := .str W) (y := .str " ") a2 rfl).trans (by
  show (if W.length + (Str.ofString " ").length ≤ 100000 then some (Rs.ok (Dv.str (W ++ Str.ofString " "))) else none) = _
  rw [if_pos (by
   have : (Str.ofString " ").length = 1 := by kernel_rfl
   omega)])
 have c0 : (gJ (fB (fM (nZ Txt.startswith) (ae 1) (aa (f2 cJ (ae 2) (fC (.str " "))) al))) (fB (f2 bE (fC (.str " ")) (ae 3)))) ρ = some (.ok (hit s W)) := by
  unfold hit
  rw [← ht]
  exact dG (aK ((i9 a1 (ac w0 ai)).trans rfl)) (aK ((aq (x := .str (Str.ofString " ")) (y := .str t) rfl a3).trans n0))
 have c1 := eV (dG (a := fB (f2 eqX (ae 2) (fC (.str "for")))) (x := seq W (Str.ofString "for")) (aK ((aq (x := .str W) (y := .str "for") a2 rfl).trans rfl)) (aK (ci bg a3 (sF tl).1))) (dG (a := fB (f2 eqX (ae 2) (fC (.str "under")))) (x := seq W (Str.ofString "under")) (aK ((aq (x := .str W) (y := .str "under") a2 rfl).trans rfl)) (aK (ci bh a3 (sD tl).1)))
 have m0 : ay ax 1 (aa (ae 3) al) ρ = some (.ok (if mtB t = true then .int (mtV t) else .non)) := ci ax a3 (yW tl ts)
 have m1 : fB (f2 pP (ay ax 1 (aa (ae 3) al)) (fC .non)) ρ = some (.ok (mtB t)) := aK ((aq (g := pP) (y := .non) m0 rfl).trans (by cases mtB t <;> rfl))
 have c2 : ∀ u, inD (.str W) (.tup [.str "until", .str "lasts"]) = bo u → (gJ (fB (f2 inD (ae 2) (cU (aa (fC (.str "until")) (aa (fC (.str "lasts")) al))))) (fB (f2 pP (ay ax 1 (aa (ae 3) al)) (fC .non)))) ρ = some (.ok (u && mtB t)) := fun u hu => dG (aK ((aq (g := inD) (x := .str W) (y := .tup [.str "until", .str "lasts"]) a2 (dk (ac (x := .str "until") rfl (ac (x := .str "lasts") rfl ai)) (by show 2 ≤ 100000; decide))).trans hu)) m1
 show DK.dIf _ _ DK.dNil ρ kv = _
 rw [eO c0]
 unfold c9
 rw [← ht]
 cases hit s W
 · rfl
 · simp only [if_true]
   show (match DK.dIf _ _ DK.dNil ρ kv with | some (ρ', kv') => _ | none => none) = _
   rw [eO c1]
   unfold wds at hW
   simp only [List.mem_cons, List.not_mem_nil, or_false] at hW
   have p3 : DK.dPut (ae 2) (DK.vE (ae 3)) ρ kv = some (ρ, DK.putD kv W (.str t)) := gs (by unfold DK.vE; rw [a3]) a2 hk
   have pm : mtB t = true → DK.dPut (ae 2) (DK.vE (ay ax 1 (aa (ae 3) al))) ρ kv = some (ρ, DK.putD kv W (.int (mtV t))) := fun h => gs (by unfold DK.vE; rw [m0, h]; rfl) a2 hk
   have r0 : ∀ (kv1 : DK.Kv) u, inD (.str W) (.tup [.str "until", .str "lasts"]) = bo u → (u && mtB t) = false → DK.dIf (gJ (fB (f2 inD (ae 2) (cU (aa (fC (.str "until")) (aa (fC (.str "lasts")) al))))) (fB (f2 pP (ay ax 1 (aa (ae 3) al)) (fC .non)))) (DK.dPut (ae 2) (DK.vE (ay ax 1 (aa (ae 3) al)))) DK.dNil ρ kv1 = some (ρ, kv1) := fun kv1 u hu h => by
    rw [eO (c2 u hu), h]
    rfl
   rcases hW with rfl | rfl | rfl | rfl
   · have s1 : seq (Str.ofString "for") (Str.ofString "for") = true := by kernel_rfl
     have s2 : seq (Str.ofString "for") (Str.ofString "under") = false := by kernel_rfl
     unfold gd
     rw [s1, s2]
     cases nmB t
     · exact r0 kv false (by kernel_rfl) rfl
     · simp only [Bool.true_and, Bool.true_or, if_true]
       rw [p3]
       exact r0 _ false (by kernel_rfl) rfl
   · have s1 : seq (Str.ofString "under") (Str.ofString "for") = false := by kernel_rfl
     have s2 : seq (Str.ofString "under") (Str.ofString "under") = true := by kernel_rfl
     unfold gd
     rw [s1, s2]
     cases ptB t
     · exact r0 kv false (by kernel_rfl) rfl
     · simp only [Bool.false_and, Bool.true_and, Bool.false_or, if_true]
       rw [p3]
       exact r0 _ false (by kernel_rfl) rfl
   · have s1 : seq (Str.ofString "until") (Str.ofString "for") = false := by kernel_rfl
     have s2 : seq (Str.ofString "until") (Str.ofString "under") = false := by kernel_rfl
     unfold gd
     rw [s1, s2]
     cases hm : mtB t
     · exact r0 kv true (by kernel_rfl) (by rw [hm]; rfl)
     · have c3 := c2 true (by kernel_rfl)
       rw [hm] at c3
       exact (eO c3).trans (pm hm)
   · have s1 : seq (Str.ofString "lasts") (Str.ofString "for") = false := by kernel_rfl
     have s2 : seq (Str.ofString "lasts") (Str.ofString "under") = false := by kernel_rfl
     unfold gd
     rw [s1, s2]
     cases hm : mtB t
     · exact r0 kv true (by kernel_rfl) (by rw [hm]; rfl)
     · have c3 := c2 true (by kernel_rfl)
       rw [hm] at c3
       exact (eO c3).trans (pm hm)
end PT
namespace PT
open PySem PySem.Spec PyProof.Rows L2 FD PySem.Builtin.Str
theorem da (kv : DK.Kv) (k : Str) (d : Dv) : (DK.putD kv k d).length ≤ kv.length + 1 := by
 unfold DK.putD
 split
 · rw [List.length_map]; omega
 · rw [List.length_append]; exact Nat.le_refl _
theorem gu (s W : Str) (kv : DK.Kv) : (c9 s W kv).length ≤ kv.length + 1 := by
 unfold c9
 split
 · split
   · exact da _ _ _
   · omega
 · omega
def isW (s : Str) : Bool := seq s (Str.ofString "any") || seq s (Str.ofString "near")
def base (s : Str) (kv : DK.Kv) : DK.Kv :=
 if isW s = true then DK.putD (if seq s (Str.ofString "safe") = true then DK.putD kv (Str.ofString "safe") (.bl true) else kv) (Str.ofString "reach") (.str s)
 else (if seq s (Str.ofString "safe") = true then DK.putD kv (Str.ofString "safe") (.bl true) else kv)
def wQ (s : Str) (kv : DK.Kv) : DK.Kv := c9 s (Str.ofString "lasts") (c9 s (Str.ofString "until") (c9 s (Str.ofString "under") (c9 s (Str.ofString "for") (base s kv))))
theorem pd (s : Str) (kv : DK.Kv) : (base s kv).length ≤ kv.length + 2 := by
 unfold base
 have h1 := da kv (Str.ofString "safe") (.bl true)
 split
 · refine Nat.le_trans (da _ _ _) ?_
   split <;> omega
 · split <;> omega
theorem m7 (x y : Str) : seq x y = seq y x := by
 unfold seq
 exact Bool.beq_comm
theorem z8 (s : Str) : inD (.str s) (.tup [.str "any", .str "near"]) = bo (isW s) := by
 show (match sU (.str s) (.tup [.str "any", .str "near"]) with | some b => some (Rs.ok (Dv.bl b)) | none => none) = _
 have : sU (.str s) (.tup [.str "any", .str "near"]) = some (isW s) := by
  show some (seq (Str.ofString "any") s || (seq (Str.ofString "near") s || false)) = _
  unfold isW
  rw [Bool.or_false, m7 (Str.ofString "any"), m7 (Str.ofString "near")]
 rw [this]
theorem ku {s : Str} {kv : DK.Kv} (hs : s.length ≤ 1000) (hg : Sg s) (hk : kv.length < 90000) : bi [.str s] kv = some (wQ s kv) := by
 have b0 := pd s kv
 have b1 := gu s (Str.ofString "for") (base s kv)
 have b2 := gu s (Str.ofString "under") (c9 s (Str.ofString "for") (base s kv))
 have b3 := gu s (Str.ofString "until") (c9 s (Str.ofString "under") (c9 s (Str.ofString "for") (base s kv)))
 have r1 := d9 (x3 := none) (kv := base s kv) (W := Str.ofString "for") (by unfold wds; simp) hs hg (by omega)
 have r2 := d9 (x3 := some (.str (rst s (Str.ofString "for")))) (kv := c9 s (Str.ofString "for") (base s kv)) (W := Str.ofString "under") (by unfold wds; simp) hs hg (by omega)
 have r3 := d9 (x3 := some (.str (rst s (Str.ofString "under")))) (kv := c9 s (Str.ofString "under") (c9 s (Str.ofString "for") (base s kv))) (W := Str.ofString "until") (by unfold wds; simp) hs hg (by omega)
 have r4 := d9 (x3 := some (.str (rst s (Str.ofString "until")))) (kv := c9 s (Str.ofString "until") (c9 s (Str.ofString "under") (c9 s (Str.ofString "for") (base s kv)))) (W := Str.ofString "lasts") (by unfold wds; simp) hs hg (by omega)
 have hb : aW [none, some (.str s), none, none] kv = some ([none, some (.str s), some (.str (Str.ofString "lasts")), some (.str (rst s (Str.ofString "lasts")))], wQ s kv) := by
  unfold aW
  have c1 : fB (f2 eqX (ae 1) (fC (.str "safe"))) [none, some (.str s), none, none] = some (.ok (seq s (Str.ofString "safe"))) := aK ((aq (x := .str s) (y := .str "safe") rfl rfl).trans rfl)
  have c2 : fB (f2 inD (ae 1) (cU (aa (fC (.str "any")) (aa (fC (.str "near")) al)))) [none, some (.str s), none, none] = some (.ok (isW s)) := aK ((aq (g := inD) (x := .str s) (y := .tup [.str "any", .str "near"]) rfl (dk (ac (x := .str "any") rfl (ac (x := .str "near") rfl ai)) (by show 2 ≤ 100000; decide))).trans (z8 s))
  have e1 : DK.dIf (fB (f2 eqX (ae 1) (fC (.str "safe")))) (DK.dPut (fC (.str "safe")) (DK.vE (fC (.bl true)))) DK.dNil [none, some (.str s), none, none] kv = some ([none, some (.str s), none, none], if seq s (Str.ofString "safe") = true then DK.putD kv (Str.ofString "safe") (.bl true) else kv) := by
   rw [eO c1]
   cases seq s (Str.ofString "safe")
   · rfl
   · rw [if_pos rfl, if_pos rfl]
     exact gs rfl rfl (by omega)
  have l1 : (if seq s (Str.ofString "safe") = true then DK.putD kv (Str.ofString "safe") (.bl true) else kv).length ≤ kv.length + 1 := by
   have := da kv (Str.ofString "safe") (.bl true)
   split <;> omega
  have e2 : DK.dIf (fB (f2 inD (ae 1) (cU (aa (fC (.str "any")) (aa (fC (.str "near")) al))))) (DK.dPut (fC (.str "reach")) (DK.vE (ae 1))) DK.dNil [none, some (.str s), none, none] (if seq s (Str.ofString "safe") = true then DK.putD kv (Str.ofString "safe") (.bl true) else kv) = some ([none, some (.str s), none, none], base s kv) := by
   rw [eO c2]
   unfold base
   cases isW s
   · rfl
   · rw [if_pos rfl, if_pos rfl]
     exact gs rfl rfl (by omega)
  show (match DK.dIf _ _ _ [none, some (.str s), none, none] kv with | some (ρ', kv') => _ | none => none) = _
  rw [e1]
  show (match DK.dIf _ _ _ [none, some (.str s), none, none] _ with | some (ρ', kv') => _ | none => none) = _
  rw [e2]
  show (match ar [none, some (.str s), some (.str (Str.ofString "for")), none] (base s kv) with | some (ρ', kv') => DK.loopD 2 ar [.str "under", .str "until", .str "lasts"] ρ' kv' | none => none) = _
  rw [r1]
  show (match ar [none, some (.str s), some (.str (Str.ofString "under")), some (.str (rst s (Str.ofString "for")))] (c9 s (Str.ofString "for") (base s kv)) with | some (ρ', kv') => DK.loopD 2 ar [.str "until", .str "lasts"] ρ' kv' | none => none) = _
  rw [r2]
  show (match ar [none, some (.str s), some (.str (Str.ofString "until")), some (.str (rst s (Str.ofString "under")))] (c9 s (Str.ofString "under") (c9 s (Str.ofString "for") (base s kv))) with | some (ρ', kv') => DK.loopD 2 ar [.str "lasts"] ρ' kv' | none => none) = _
  rw [r3]
  show (match ar [none, some (.str s), some (.str (Str.ofString "lasts")), some (.str (rst s (Str.ofString "until")))] (c9 s (Str.ofString "until") (c9 s (Str.ofString "under") (c9 s (Str.ofString "for") (base s kv)))) with | some (ρ', kv') => DK.loopD 2 ar [] ρ' kv' | none => none) = _
  rw [r4]
  rfl
 unfold bi DK.runD
 show (match aW [none, some (.str s), none, none] kv with | some (_, kv') => some kv' | none => none) = _
 rw [hb]
end PT
namespace PT
open PySem PySem.Spec PyProof.Rows L2 FD PySem.Builtin.Str
def pw (s : Str) : Str := (Txt.partition s (Str.ofString " ")).1
def pr (s : Str) : Str := (Txt.partition s (Str.ofString " ")).2.2
def tl (s : Str) : Option (Int × Dv) :=
 if seq s (Str.ofString "safe") = true then some (6, .bl true)
 else if isW s = true then some (7, .str s)
 else if (seq (pw s) (Str.ofString "for") && nmB (pr s)) = true then some (2, .str (pr s))
 else if (seq (pw s) (Str.ofString "under") && ptB (pr s)) = true then some (3, .str (pr s))
 else if (seq (pw s) (Str.ofString "until") && mtB (pr s)) = true then some (4, .int (mtV (pr s)))
 else if (seq (pw s) (Str.ofString "lasts") && mtB (pr s)) = true then some (5, .int (mtV (pr s)))
 else none
def xx : Option (Int × Dv) → Dv
 | none => .non
 | some (i, d) => .tup [.int i, d]
theorem cQ {c : FnB} {e : FnE} {rest : FnS} {ρ : Ev} {b : Bool} {d : Dv} (hc : c ρ = some (.ok b)) (he : b = true → e ρ = some (.ok d)) : aT (bL c (bD e) (fun ρ => some (.nx ρ))) rest ρ = if b = true then some (.rt d) else rest ρ := by
 unfold aT bL
 rw [hc]
 cases b
 · rfl
 · show sq (bD e ρ) rest = _
   rw [bw (he rfl)]
   rfl
theorem du {i : Int} {f : FnE} {ρ : Ev} {d : Dv} (h : f ρ = some (.ok d)) : cU (aa (fC (.int i)) (aa f al)) ρ = some (.ok (.tup [.int i, d])) := dk (ac (x := .int i) rfl (ac h ai)) (by show 2 ≤ 100000; decide)
theorem pe (s : Str) : bS [.str s] = bo (isW s) := by
 refine bO ?_
 show bR [some (.str s)] = _
 unfold bR
 refine bw ?_
 have h1 : f2 eqX (ae 0) (fC (.str "any")) [some (.str s)] = bo (seq s (Str.ofString "any")) := (aq (x := .str s) (y := .str "any") rfl rfl).trans rfl
 have h2 : f2 eqX (ae 0) (fC (.str "near")) [some (.str s)] = bo (seq s (Str.ofString "near")) := (aq (x := .str s) (y := .str "near") rfl rfl).trans rfl
 unfold vOr isW
 rw [h1]
 cases seq s (Str.ofString "any")
 · exact h2
 · rfl
theorem sI {s : Str} (hs : s.length ≤ 1000) : aS [.str s] = some (.ok (xx (tl s))) := by
 have hp : (pr s).length ≤ 1000 := by
  have := (PyProof.Rows.fact_partition s (Str.ofString " ")).2.2
  unfold pr
  omega
 refine bO ?_
 show aR [some (.str s), none, none, none] = _
 unfold aR
 have c1 : fB (f2 eqX (ae 0) (fC (.str "safe"))) [some (.str s), none, none, none] = some (.ok (seq s (Str.ofString "safe"))) := aK ((aq (x := .str s) (y := .str "safe") rfl rfl).trans rfl)
 have c2 : fB (ay bS 1 (aa (ae 0) al)) [some (.str s), none, none, none] = some (.ok (isW s)) := aK (ci bS rfl (pe s))
 rw [cQ c1 (fun _ => du (d := .bl true) rfl), cQ c2 (fun _ => du (d := .str s) rfl)]
 unfold tl
 split
 · rfl
 split
 · rfl
 obtain ⟨m, hm⟩ : ∃ m, m = Txt.partition s (Str.ofString " ") := ⟨_, rfl⟩
 have v1 : fM (iE) (ae 0) (aa (fC (.str " ")) al) [some (.str s), none, none, none] = some (.ok (.tup [.str (pw s), .str m.2.1, .str (pr s)])) := (i9 (x := s) rfl (ac (x := .str " ") rfl ai)).trans (by
  rw [hm]
  show (if (Str.ofString " ").length ≠ 0 ∧ s.length ≤ 100000 then some (Rs.ok (Dv.tup [.str (Txt.partition s (Str.ofString " ")).1, .str (Txt.partition s (Str.ofString " ")).2.1, .str (Txt.partition s (Str.ofString " ")).2.2])) else none) = _
  rw [if_pos ⟨by decide, by omega⟩]
  rfl)
 obtain ⟨P, hP⟩ : ∃ P, P = Dv.tup [.str (pw s), .str m.2.1, .str (pr s)] := ⟨_, rfl⟩
 rw [← hP] at v1
 rw [az (aJ (ρ' := [some (.str s), some P, none, none]) v1 rfl), az (aJ (ρ' := [some (.str s), some P, some (.str (pw s)), none]) (d := .str (pw s)) ((aq (x := P) (y := .int 0) rfl rfl).trans (by rw [hP]; rfl)) rfl), az (aJ (ρ' := [some (.str s), some P, some (.str (pw s)), some (.str (pr s))]) (d := .str (pr s)) ((aq (x := P) (y := .int 2) rfl rfl).trans (by rw [hP]; rfl)) rfl)]
 have q {w : String} : fB (f2 eqX (ae 2) (fC (.str (Str.ofString w)))) [some (.str s), some P, some (.str (pw s)), some (.str (pr s))] = some (.ok (seq (pw s) (Str.ofString w))) := aK ((aq (x := .str (pw s)) (y := .str (Str.ofString w)) rfl rfl).trans rfl)
 have i0 : ∀ b : Bool, (b && mtB (pr s)) = true → fB1 rM (aa (ae 3) al) [some (.str s), some P, some (.str (pw s)), some (.str (pr s))] = some (.ok (.int (mtV (pr s)))) := fun b h => (bx (ac (x := .str (pr s)) rfl ai)).trans (ql (Bool.and_eq_true_iff.mp h).2 hp)
 rw [cQ (dG q (aK (ci bg rfl (sF hp).1))) (fun _ => du (d := .str (pr s)) rfl), cQ (dG q (aK (ci bh rfl (sD hp).1))) (fun _ => du (d := .str (pr s)) rfl),
  cQ (dG q (aK (ci ap rfl (mZ hp).1))) (fun h => du (i0 _ h)), cQ (dG q (aK (ci ap rfl (mZ hp).1))) (fun h => du (i0 _ h))]
 split
 · rfl
 split
 · rfl
 split
 · rfl
 split
 · rfl
 rfl
end PT
namespace PT
open PySem PySem.Spec PyProof.Rows L2 FD PySem.Builtin.Str
theorem pf {x y : Str} (h : seq x y = true) : x = y := ig (by unfold seq at h; simpa using h)
theorem m8 (x : Str) : seq x x = true := by unfold seq; simp
def sY (kv : DK.Kv) (W : Str) : Option Dv → DK.Kv
 | some d => DK.putD kv W d
 | none => kv
theorem kx : (Str.ofString " ") = ⟨#[32]⟩ := by kernel_rfl
theorem yX {W : Str} (h : W ∈ wds) : 32 ∉ W.cps.toList := by
 unfold wds at h
 simp only [List.mem_cons, List.not_mem_nil, or_false] at h
 rcases h with rfl | rfl | rfl | rfl <;> decide
theorem m9 (W : Str) : (W ++ Str.ofString " ").cps.toList = W.cps.toList ++ [32] := by
 rw [kx]
 exact Array.toList_append
theorem yY {W t : Str} (h : 32 ∈ t.cps.toList) (hl : t.length ≤ 1000) : gd W t = none := by
 unfold gd
 rw [(sF hl).2 h, (sD hl).2 h]
 have : mtB t = false := by
  rw [(mZ hl).2, sC h (by decide), Bool.and_false]
 rw [this]
 split
 · rfl
 · split <;> rfl
theorem jc {s W : Str} {kv : DK.Kv} (h : hit s W = false) : c9 s W kv = kv := by
 unfold c9
 rw [h]
 exact if_neg Bool.false_ne_true
theorem ph {s W : Str} {kv : DK.Kv} (h : hit s W = true) : c9 s W kv = sY kv W (gd W (rst s W)) := by
 unfold c9
 rw [h, if_pos rfl]
 cases gd W (rst s W) with
 | none => rfl
 | some d => rfl
theorem jZ {s W : Str} {kv : DK.Kv} (h : 32 ∉ s.cps.toList) : c9 s W kv = kv := by
 refine jc ?_
 unfold hit
 have : Txt.startswith s (W ++ Str.ofString " ") = false := by
  cases q : Txt.startswith s (W ++ Str.ofString " ")
  · rfl
  · obtain ⟨b, e⟩ := (dt _ _).mp q
    rw [m9] at e
    exact absurd (by rw [e]; simp) h
 rw [this, Bool.false_and]
theorem j3 {s W : Str} {a b : List Nat} {kv : DK.Kv} (hs : s.length ≤ 1000) (hW : W ∈ wds) (e : s.cps.toList = a ++ 32 :: b) (ha : 32 ∉ a) : c9 s W kv = if seq ⟨a.toArray⟩ W = true then sY kv W (gd W ⟨b.toArray⟩) else kv := by
 cases q : seq ⟨a.toArray⟩ W with
 | false =>
  have : Txt.startswith s (W ++ Str.ofString " ") = false := by
   cases q2 : Txt.startswith s (W ++ Str.ofString " ")
   · rfl
   · obtain ⟨b', e2⟩ := (dt _ _).mp q2
     rw [m9, e, List.append_assoc] at e2
     obtain ⟨h1, _⟩ := d4 (b' := b') e2 ha (yX hW)
     have : seq ⟨a.toArray⟩ W = true := by unfold seq; simp [h1]
     rw [this] at q; cases q
  have h0 : hit s W = false := by
   unfold hit
   rw [this, Bool.false_and]
  rw [jc h0, if_neg Bool.false_ne_true]
 | true =>
  have hw : W.cps.toList = a := by rw [← pf q]
  have h1 : Txt.startswith s (W ++ Str.ofString " ") = true := (dt _ _).mpr ⟨b, by rw [m9, hw, e]; simp⟩
  have hr : rst s W = ⟨b.toArray⟩ := ig (by
   unfold rst
   rw [fG, e]
   have : W.length = a.length := by rw [← hw, Array.length_toList]; rfl
   rw [this]
   simp)
  have hl : (⟨b.toArray⟩ : Str).length ≤ 1000 := by rw [← hr]; exact Nat.le_trans (Txt.slice_le _ _ _) hs
  rw [if_pos rfl]
  by_cases hb : 32 ∈ b
  · have h0 : hit s W = false := by
     unfold hit
     rw [h1, hr, Bool.true_and]
     simpa using hb
    rw [jc h0, yY (t := ⟨b.toArray⟩) hb hl]
    exact Eq.refl kv
  · have h0 : hit s W = true := by
     unfold hit
     rw [h1, hr, Bool.true_and]
     simpa using hb
    rw [ph h0, hr]
end PT
namespace PT
open PySem PySem.Spec PyProof.Rows L2 FD PySem.Builtin.Str
def qm : Int → Str
 | 2 => Str.ofString "for"
 | 3 => Str.ofString "under"
 | 4 => Str.ofString "until"
 | 5 => Str.ofString "lasts"
 | 6 => Str.ofString "safe"
 | _ => Str.ofString "reach"
def ky (kv : DK.Kv) : Option (Int × Dv) → DK.Kv
 | none => kv
 | some (i, d) => DK.putD kv (qm i) d
theorem nsp {s w : Str} (h : 32 ∈ s.cps.toList) (hw : 32 ∉ w.cps.toList) : seq s w = false := by
 cases q : seq s w
 · rfl
 · rw [pf q] at h
   exact absurd h hw
theorem kz {x y z : Str} (h : seq x y = true) (hn : seq y z = false) : seq x z = false := by
 rw [pf h]
 exact hn
theorem nm0 : nmB (Str.ofString "") = false := by kernel_rfl
theorem pt0 : ptB (Str.ofString "") = false := by kernel_rfl
theorem mt0 : mtB (Str.ofString "") = false := by kernel_rfl
theorem sJ {s : Str} {kv : DK.Kv} (hs : s.length ≤ 1000) : wQ s kv = ky kv (tl s) := by
 rcases bu s 32 with ⟨h, e⟩ | ⟨a, b, e, ha, ep⟩
 · have p1 : pw s = s := by unfold pw; rw [kx, e]
   have p2 : pr s = Str.ofString "" := by unfold pr; rw [kx, e]; rfl
   unfold wQ
   rw [jZ h, jZ h, jZ h, jZ h]
   unfold tl base
   rw [p1, p2, nm0, pt0, mt0]
   simp only [Bool.and_false]
   rw [if_neg Bool.false_ne_true, if_neg Bool.false_ne_true, if_neg Bool.false_ne_true, if_neg Bool.false_ne_true]
   cases q : seq s (Str.ofString "safe")
   · cases isW s
     · rw [if_neg Bool.false_ne_true, if_neg Bool.false_ne_true, if_neg Bool.false_ne_true, if_neg Bool.false_ne_true]; exact Eq.refl kv
     · rw [if_pos rfl, if_neg Bool.false_ne_true, if_neg Bool.false_ne_true, if_pos rfl]; exact Eq.refl (DK.putD kv (Str.ofString "reach") (.str s))
   · have : isW s = false := by rw [pf q]; kernel_rfl
     rw [this, if_neg Bool.false_ne_true, if_pos rfl, if_pos rfl]; exact Eq.refl (DK.putD kv (Str.ofString "safe") (.bl true))
 · have p1 : pw s = ⟨a.toArray⟩ := by unfold pw; rw [kx, ep]
   have p2 : pr s = ⟨b.toArray⟩ := by unfold pr; rw [kx, ep]
   have hsp : 32 ∈ s.cps.toList := by rw [e]; simp
   have hbase : base s kv = kv := by
    have z : isW s = false := by
     unfold isW
     rw [nsp hsp (by decide), nsp hsp (by decide)]
     rfl
    unfold base
    rw [z, nsp hsp (by decide), if_neg Bool.false_ne_true, if_neg Bool.false_ne_true]
   have htl : tl s = (if (seq (pw s) (Str.ofString "for") && nmB (pr s)) = true then some (2, .str (pr s))
    else if (seq (pw s) (Str.ofString "under") && ptB (pr s)) = true then some (3, .str (pr s))
    else if (seq (pw s) (Str.ofString "until") && mtB (pr s)) = true then some (4, .int (mtV (pr s)))
    else if (seq (pw s) (Str.ofString "lasts") && mtB (pr s)) = true then some (5, .int (mtV (pr s)))
    else none) := by
    unfold tl
    have z : isW s = false := by
     unfold isW
     rw [nsp hsp (by decide), nsp hsp (by decide)]
     rfl
    rw [z, nsp hsp (by decide), if_neg Bool.false_ne_true, if_neg Bool.false_ne_true]
   unfold wQ
   rw [hbase, htl, j3 hs (W := Str.ofString "for") (by unfold wds; simp) e ha, j3 hs (W := Str.ofString "under") (by unfold wds; simp) e ha, j3 hs (W := Str.ofString "until") (by unfold wds; simp) e ha, j3 hs (W := Str.ofString "lasts") (by unfold wds; simp) e ha, p1, p2]
   generalize (⟨a.toArray⟩ : Str) = A
   generalize (⟨b.toArray⟩ : Str) = B
   have n1 : seq (Str.ofString "for") (Str.ofString "under") = false := by kernel_rfl
   have n2 : seq (Str.ofString "for") (Str.ofString "until") = false := by kernel_rfl
   have n3 : seq (Str.ofString "for") (Str.ofString "lasts") = false := by kernel_rfl
   have n4 : seq (Str.ofString "under") (Str.ofString "until") = false := by kernel_rfl
   have n5 : seq (Str.ofString "under") (Str.ofString "lasts") = false := by kernel_rfl
   have n6 : seq (Str.ofString "until") (Str.ofString "lasts") = false := by kernel_rfl
   have m1 : seq (Str.ofString "under") (Str.ofString "for") = false := by kernel_rfl
   have m2 : seq (Str.ofString "until") (Str.ofString "for") = false := by kernel_rfl
   have m3 : seq (Str.ofString "lasts") (Str.ofString "for") = false := by kernel_rfl
   have m4 : seq (Str.ofString "until") (Str.ofString "under") = false := by kernel_rfl
   have m5 : seq (Str.ofString "lasts") (Str.ofString "under") = false := by kernel_rfl
   have g1 : gd (Str.ofString "for") B = if nmB B then some (.str B) else none := by unfold gd; rw [m8]; exact if_pos rfl
   have g2 : gd (Str.ofString "under") B = if ptB B then some (.str B) else none := by unfold gd; rw [m1, m8]; exact (if_neg Bool.false_ne_true).trans (if_pos rfl)
   have g3 : gd (Str.ofString "until") B = if mtB B then some (.int (mtV B)) else none := by unfold gd; rw [m2, m4]; exact (if_neg Bool.false_ne_true).trans (if_neg Bool.false_ne_true)
   have g4 : gd (Str.ofString "lasts") B = if mtB B then some (.int (mtV B)) else none := by unfold gd; rw [m3, m5]; exact (if_neg Bool.false_ne_true).trans (if_neg Bool.false_ne_true)
   rw [g1, g2, g3, g4]
   cases q1 : seq A (Str.ofString "for")
   · cases q2 : seq A (Str.ofString "under")
     · cases q3 : seq A (Str.ofString "until")
       · cases q4 : seq A (Str.ofString "lasts")
         · simp [ky]
         · cases mtB B <;> simp [ky, sY, qm]
       · rw [kz q3 n6]
         cases mtB B <;> simp [ky, sY, qm]
     · rw [kz q2 n4, kz q2 n5]
       cases ptB B <;> simp [ky, sY, qm]
   · rw [kz q1 n1, kz q1 n2, kz q1 n3]
     cases nmB B <;> simp [ky, sY, qm]
end PT
namespace PT
open PySem PySem.Spec PyProof.Rows L2 FD PySem.Builtin.Str
theorem spl (x : Str) (c : Nat) : (c ∉ x.cps.toList ∧ Txt.split x ⟨#[c]⟩ = [x]) ∨ ∃ a b : List Nat, x.cps.toList = a ++ c :: b ∧ c ∉ a ∧ ((c ∉ b ∧ Txt.split x ⟨#[c]⟩ = [⟨a.toArray⟩, ⟨b.toArray⟩]) ∨ (c ∈ b ∧ 3 ≤ (Txt.split x ⟨#[c]⟩).length)) := by
 obtain ⟨p, r, e⟩ := cD x ⟨#[c]⟩
 have h := ba x ⟨#[c]⟩
 have hf : ∀ q ∈ p :: r, c ∉ q.cps.toList := fun q hq => StrLaws.split_free x c q (by rw [e]; exact hq)
 rw [e] at h
 have h2 : x.cps.toList = p.cps.toList ++ r.flatMap fun p => [c] ++ p.cps.toList := by
  rw [← bU ⟨#[c]⟩ p r, h]
 rw [e]
 cases r with
 | nil =>
  have h3 : x = p := ig (by rw [h2]; simp)
  refine .inl ⟨?_, by rw [h3]⟩
  rw [h3]
  exact hf p List.mem_cons_self
 | cons q r =>
  refine .inr ⟨p.cps.toList, q.cps.toList ++ r.flatMap fun p => [c] ++ p.cps.toList, ?_, hf p List.mem_cons_self, ?_⟩
  · rw [h2, List.flatMap_cons]
    simp
  · cases r with
    | nil =>
     refine .inl ⟨?_, ?_⟩
     · simpa using hf q (by simp)
     · simp
    | cons z r =>
     refine .inr ⟨?_, ?_⟩
     · rw [List.flatMap_cons]
       simp
     · simp
theorem eP (x : Str) (c z : Nat) : (Txt.replace x ⟨#[c]⟩ ⟨#[z]⟩).cps.toList = x.cps.toList.map fun d => if d = c then z else d := by
 rw [StrLaws.replace_one, ← StrLaws.glued_eq_join]
 obtain ⟨p, r, e⟩ := cD x ⟨#[c]⟩
 have h := ba x ⟨#[c]⟩
 have hf : ∀ q ∈ p :: r, c ∉ q.cps.toList := fun q hq => StrLaws.split_free x c q (by rw [e]; exact hq)
 rw [e] at h
 have h2 : x.cps.toList = p.cps.toList ++ r.flatMap fun p => [c] ++ p.cps.toList := by
  rw [← bU ⟨#[c]⟩ p r, h]
 rw [e, bU, h2, List.map_append, List.map_flatMap]
 have key : ∀ q : Str, c ∉ q.cps.toList → (q.cps.toList.map fun d => if d = c then z else d) = q.cps.toList := fun q hq => by
  refine (List.map_congr_left fun d hd => ?_).trans (List.map_id _)
  exact if_neg fun (he : d = c) => hq (he ▸ hd)
 rw [key p (hf p List.mem_cons_self)]
 congr 1
 have : ∀ l : List Str, (∀ q ∈ l, c ∉ q.cps.toList) → (l.flatMap fun p => ([z] : List Nat) ++ p.cps.toList) = l.flatMap fun a => List.map (fun d => if d = c then z else d) ([c] ++ a.cps.toList) := by
  intro l
  induction l with
  | nil => intro _; rfl
  | cons q l ih =>
   intro hl
   rw [List.flatMap_cons, List.flatMap_cons, ih fun q hq => hl q (List.mem_cons_of_mem _ hq), List.map_append, key q (hl q List.mem_cons_self)]
   simp
 exact this r fun q hq => hf q (List.mem_cons_of_mem _ hq)
theorem pj (x : Str) : Txt.isalnum x = (decide (0 < x.length) && x.cps.toList.all Unicode.isAlnum) := by
 unfold Txt.isalnum
 rw [Array.all_toList]
def Vs (l : List Nat) : Prop := ∀ c ∈ l, 32 ≤ c ∧ c ≤ 126
def nsg : Str := Str.ofString "abcdefghijklmnopqrstuvwxyzABCDEFGHIJKLMNOPQRSTUVWXYZ0123456789-_"
def vis : List Nat := (List.range 95).map (· + 32)
theorem ng {c : Nat} (h : 32 ≤ c ∧ c ≤ 126) : c ∈ vis := List.mem_map.mpr ⟨c - 32, List.mem_range.mpr (by omega), by omega⟩
def m2 (c : Nat) : Nat := (fun d => if d = 95 then 97 else d) ((fun d => if d = 45 then 95 else d) c)
theorem sK : (vis.all fun c => Unicode.isAlnum (m2 c) == decide (c ∈ nsg.cps.toList)) = true := by kernel_rfl
theorem nh {l : List Nat} {p q : Nat → Bool} (h : ∀ c ∈ l, p c = q c) : l.all p = l.all q := by
 induction l with
 | nil => rfl
 | cons a l ih => rw [List.all_cons, List.all_cons, h a List.mem_cons_self, ih fun c hc => h c (List.mem_cons_of_mem _ hc)]
theorem zx (x : Str) : (Txt.replace (Txt.replace x (Str.ofString "-") (Str.ofString "_")) (Str.ofString "_") (Str.ofString "a")).cps.toList = x.cps.toList.map m2 := by
 have e1 : Str.ofString "-" = ⟨#[45]⟩ := by kernel_rfl
 have e2 : Str.ofString "_" = ⟨#[95]⟩ := by kernel_rfl
 have e3 : Str.ofString "a" = ⟨#[97]⟩ := by kernel_rfl
 rw [e1, e2, e3, eP, eP, List.map_map]
 rfl
theorem wR {x : Str} (h : Vs x.cps.toList) : Txt.isalnum (Txt.replace (Txt.replace x (Str.ofString "-") (Str.ofString "_")) (Str.ofString "_") (Str.ofString "a")) = (decide (0 < x.length) && bT x nsg) := by
 rw [pj, zx]
 have hl : (Txt.replace (Txt.replace x (Str.ofString "-") (Str.ofString "_")) (Str.ofString "_") (Str.ofString "a")).length = x.length := by
  have := congrArg List.length (zx x)
  rw [List.length_map, Array.length_toList, Array.length_toList] at this
  exact this
 rw [hl]
 congr 1
 rw [List.all_map]
 unfold bT
 refine nh fun c hc => ?_
 have := List.all_eq_true.mp sK c (ng (h c hc))
 exact eq_of_beq this
end PT
namespace PT
open PySem PySem.Spec PyProof.Rows L2 FD PySem.Builtin.Str
theorem qo (a b : Nat) : decide (([a] : List Nat) < [b]) = decide (a < b) := by
 rw [Bool.eq_iff_iff, decide_eq_true_eq, decide_eq_true_eq]
 constructor
 · intro h
   cases h with
   | rel h => exact h
   | cons h => cases h
 · intro h
   exact List.Lex.rel h
def wC (c : Nat) : Bool := decide (33 ≤ c) && (decide (c ≤ 126) && !decide (c ∈ (Str.ofString ";,=").cps.toList))
def wB (b : Str) : Bool := decide (b.length ≤ 12) && b.cps.toList.all wC
theorem kA (c : Nat) (y : Str) : bE (one c) (.str y) = bo (!decide (c ∈ y.cps.toList)) := by
 show some (Rs.ok (Dv.bl (!inS ⟨#[c]⟩ y))) = _
 rw [i8]
theorem yZ {b : Str} (hb : b.length ≤ 1000) : cC [.str b] = bo (wB b) := by
 refine bO ?_
 show bQ [some (.str b)] = _
 unfold bQ
 have l1 : fB1 b9 (aa (ae 0) al) [some (.str b)] = some (.ok (.int (b.length : Int))) := (bx (ac (x := .str b) rfl ai)).trans (len_str (by omega))
 have c1 : eQ (fB (f1 (nu eS) (ae 0))) [some (.str b)] = some (.ok false) := rfl
 have c2 : fB (f2 gtD (fB1 b9 (aa (ae 0) al)) (fC (.int 12))) [some (.str b)] = some (.ok (decide ((b.length : Int) > 12))) := aK ((aq (x := .int (b.length : Int)) (y := .int 12) l1 rfl).trans rfl)
 have e := dZ (cs := []) (src := b7 (ae 0)) (elt := kB (f2 leX (fC (.str "!")) (ae 0)) (kB (f2 leX (ae 0) (fC (.str "~"))) (f2 bE (ae 0) (fC (.str ";,="))))) (ρ := [some (.str b)]) one (fun c => Dv.bl (wC c)) (l := b.cps.toList) rfl (by rw [Array.length_toList]; exact Nat.le_trans hb (by omega)) fun c _ => by
  have t1 : f2 leX (fC (.str "!")) (ae 0) ((nV [] [some (.str b)]).set 0 (some (one c))) = bo (decide (33 ≤ c)) := (aq (x := .str "!") (y := one c) rfl rfl).trans (by
   show some (Rs.ok (Dv.bl (!decide (([c] : List Nat) < [33])))) = _
   rw [qo]
   congr 3
   simp only [← decide_not]
   exact decide_eq_decide.mpr (by omega))
  have t2 : f2 leX (ae 0) (fC (.str "~")) ((nV [] [some (.str b)]).set 0 (some (one c))) = bo (decide (c ≤ 126)) := (aq (x := one c) (y := .str "~") rfl rfl).trans (by
   show some (Rs.ok (Dv.bl (!decide (([126] : List Nat) < [c])))) = _
   rw [qo]
   congr 3
   simp only [← decide_not]
   exact decide_eq_decide.mpr (by omega))
  have t3 : f2 bE (ae 0) (fC (.str ";,=")) ((nV [] [some (.str b)]).set 0 (some (one c))) = bo (!decide (c ∈ (Str.ofString ";,=").cps.toList)) := (aq (x := one c) (y := .str ";,=") rfl rfl).trans (kA c _)
  exact jX t1 (jX t2 t3)
 have e2 := (bx (g := nW) (ac e ai)).trans (all_map _ _)
 rw [eM (eV c1 c2), Bool.false_or]
 unfold wB
 by_cases h : (b.length : Int) > 12
 · rw [if_pos (by simpa using h)]
   have : decide (b.length ≤ 12) = false := by simp; omega
   rw [this]
   rfl
 · rw [if_neg (by simpa using h)]
   have : decide (b.length ≤ 12) = true := by simp; omega
   rw [this]
   exact bw e2
def nB (a : Str) : Bool := decide ((1 : Int) ≤ (a.length : Int)) && decide ((a.length : Int) ≤ 10) && bT a nsg
theorem y0 {a : Str} (ha : a.length ≤ 1000) : bc [.str a] = bo (nB a) := by
 refine bO ?_
 show aQ [some (.str a)] = _
 unfold aQ
 exact bw (mY av rfl rfl rfl rfl (mU (by omega)))
def gv (kv : DK.Kv) (k : Str) : Dv := (DK.valD kv k).getD .non
theorem pk {kv : DK.Kv} {k k' : Str} {d : Dv} : DK.valD (kv.map fun p => if p.1 = k then (p.1, d) else p) k' = if k = k' then (DK.valD kv k).map fun _ => d else DK.valD kv k' := by
 unfold DK.valD
 induction kv with
 | nil => split <;> rfl
 | cons p kv ih =>
  rw [List.map_cons]
  by_cases h1 : p.1 = k
  · rw [if_pos h1]
    by_cases h2 : k = k'
    · rw [if_pos h2, List.find?_cons_of_pos (by simpa using h1.trans h2), List.find?_cons_of_pos (by simpa using h1)]
      rfl
    · rw [if_neg h2, List.find?_cons_of_neg (by simpa [h1] using h2), List.find?_cons_of_neg (by simpa [h1] using h2), ih, if_neg h2]
  · rw [if_neg h1]
    by_cases h2 : k = k'
    · rw [if_pos h2, List.find?_cons_of_neg (by simpa [← h2] using h1), List.find?_cons_of_neg (by simpa using h1), ih, if_pos h2]
    · by_cases h3 : p.1 = k'
      · rw [if_neg h2, List.find?_cons_of_pos (by simpa using h3), List.find?_cons_of_pos (by simpa using h3)]
      · rw [if_neg h2, List.find?_cons_of_neg (by simpa using h3), List.find?_cons_of_neg (by simpa using h3), ih, if_neg h2]
theorem ni (kv : DK.Kv) (k k' : Str) (d : Dv) : DK.valD (DK.putD kv k d) k' = if k = k' then some d else DK.valD kv k' := by
 unfold DK.putD
 split
 · rename_i h
   rw [pk]
   split
   · obtain ⟨p, hp, hk⟩ := List.any_eq_true.mp h
     have : (DK.valD kv k).isSome = true := by
      unfold DK.valD
      rw [Option.isSome_map, List.find?_isSome]
      exact ⟨p, hp, hk⟩
     obtain ⟨v, hv⟩ := Option.isSome_iff_exists.mp this
     rw [hv]; rfl
   · rfl
 · rename_i h
   have hn : DK.valD kv k = none := by
    unfold DK.valD
    rw [Option.map_eq_none_iff, List.find?_eq_none]
    intro p hp hk
    exact h (List.any_eq_true.mpr ⟨p, hp, hk⟩)
   unfold DK.valD at hn ⊢
   rw [List.find?_append]
   by_cases h2 : k = k'
   · rw [if_pos h2, ← h2]
     rw [Option.map_eq_none_iff] at hn
     rw [hn]
     simp
   · rw [if_neg h2]
     have : List.find? (fun p : Str × Dv => decide (p.1 = k')) [(k, d)] = none := by simp [h2]
     rw [this, Option.or_none]
def row (A B : Dv) (kv : DK.Kv) : List Dv := [A, B, gv kv (Str.ofString "for"), gv kv (Str.ofString "under"), gv kv (Str.ofString "until"), gv kv (Str.ofString "lasts"), gv kv (Str.ofString "safe"), gv kv (Str.ofString "reach")]
theorem qp (kv : DK.Kv) (k k' : Str) (d : Dv) : gv (DK.putD kv k d) k' = if k = k' then d else gv kv k' := by
 unfold gv
 rw [ni]
 split <;> rfl
theorem wS {a b : String} (h : seq (Str.ofString a) (Str.ofString b) = false) : Str.ofString a ≠ Str.ofString b := fun e => by
 rw [e, m8] at h
 cases h
theorem y2 {s : Str} {i : Int} {d : Dv} (h : tl s = some (i, d)) : i ∈ [(2 : Int), 3, 4, 5, 6, 7] := by
 unfold tl at h
 repeat' split at h
 all_goals first | (cases h; decide) | cases h
theorem sL {A B : Dv} {kv : DK.Kv} {i : Int} {d : Dv} (h : i ∈ [(2 : Int), 3, 4, 5, 6, 7]) : (row A B kv).set i.toNat d = row A B (DK.putD kv (qm i) d) := by
 simp only [List.mem_cons, List.not_mem_nil, or_false] at h
 unfold row
 rcases h with rfl | rfl | rfl | rfl | rfl | rfl <;> simp only [qp, qm, Int.reduceToNat, List.set_cons_succ, List.set_cons_zero] <;> simp <;> refine ⟨?_, ?_, ?_, ?_, ?_⟩ <;> exact fun e => absurd e (wS (by kernel_rfl))
end PT
namespace PT
open PySem PySem.Spec PyProof.Rows L2 FD PySem.Builtin.Str
def im (ps : List Str) (kv : DK.Kv) : DK.Kv := ps.foldl (fun kv p => ky kv (tl p)) kv
theorem pp (kv : DK.Kv) (o : Option (Int × Dv)) : (ky kv o).length ≤ kv.length + 1 := by
 cases o with
 | none => exact Nat.le_succ _
 | some p => exact da _ _ _
theorem wT {x0 x1 x2 x3 x5 : Option Dv} : ∀ (ps : List Str) (x4 : Option Dv) (kv : DK.Kv), (∀ p ∈ ps, p.length ≤ 1000 ∧ Sg p) → kv.length + ps.length < 80000 → ∃ y4, DK.loopD 4 aC (ps.map Dv.str) [x0, x1, x2, x3, x4, x5] kv = some ([x0, x1, x2, x3, y4, x5], im ps kv)
 | [], x4, kv, _, _ => ⟨x4, rfl⟩
 | p :: ps, x4, kv, h, hk => by
  obtain ⟨h1, h2⟩ := h p List.mem_cons_self
  have hl := pp kv (tl p)
  rw [List.length_cons] at hk
  obtain ⟨y4, e⟩ := wT (x0 := x0) (x1 := x1) (x2 := x2) (x3 := x3) (x5 := x5) ps (some (.str p)) (ky kv (tl p)) (fun q hq => h q (List.mem_cons_of_mem _ hq)) (by omega)
  refine ⟨y4, ?_⟩
  have b : aC [x0, x1, x2, x3, some (.str p), x5] kv = some ([x0, x1, x2, x3, some (.str p), x5], ky kv (tl p)) := by
   unfold aC DK.dCall
   show (match bi [.str p] kv with | some kv' => some ([x0, x1, x2, x3, some (.str p), x5], kv') | none => none) = _
   rw [ku h1 h2 (by omega), sJ h1]
  show (match aC [x0, x1, x2, x3, some (.str p), x5] kv with | some (ρ', kv') => DK.loopD 4 aC (ps.map Dv.str) ρ' kv' | none => none) = _
  rw [b]
  exact e
theorem wU {x0 x1 x2 x3 : Option Dv} {A B : Dv} : ∀ (ps : List Str) (x4 x5 : Option Dv) (kv : DK.Kv), (∀ p ∈ ps, p.length ≤ 1000) → gY 4 [4, 5] aw (ps.map Dv.str) [x0, x1, x2, x3, x4, x5] (row A B kv) = some (.nx [x0, x1, x2, x3, none, none] (row A B (im ps kv)))
 | [], x4, x5, kv, _ => rfl
 | p :: ps, x4, x5, kv, h => by
  have h1 := h p List.mem_cons_self
  have b : ∃ y5, aw [x0, x1, x2, x3, some (.str p), none] (row A B kv) = some (.nx [x0, x1, x2, x3, some (.str p), y5] (row A B (ky kv (tl p)))) := by
   refine ⟨some (xx (tl p)), ?_⟩
   unfold aw
   have t1 : sW 5 (ay aS 1 (aa (ae 4) al)) [x0, x1, x2, x3, some (.str p), none] (row A B kv) = some (.nx [x0, x1, x2, x3, some (.str p), some (xx (tl p))] (row A B kv)) := by
    unfold sW
    rw [ci aS rfl (sI h1)]
    rfl
   unfold p6
   rw [t1]
   show oIf _ _ _ [x0, x1, x2, x3, some (.str p), some (xx (tl p))] (row A B kv) = _
   cases q : tl p with
   | none => rfl
   | some z =>
    obtain ⟨i, d⟩ := z
    have hi := y2 q
    have hi2 : 0 ≤ i ∧ i < 8 := by
     simp only [List.mem_cons, List.not_mem_nil, or_false] at hi
     omega
    show (if 0 ≤ i ∧ i < ((row A B kv).length : Int) then some (Fo.nx [x0, x1, x2, x3, some (.str p), some (.tup [.int i, d])] ((row A B kv).set i.toNat d)) else none) = _
    rw [if_pos (show 0 ≤ i ∧ i < ((row A B kv).length : Int) from hi2), sL hi]
    rfl
  obtain ⟨y5, b⟩ := b
  show (match aw [x0, x1, x2, x3, some (.str p), none] (row A B kv) with | some (.nx ρ' xs') => gY 4 [4, 5] aw (ps.map Dv.str) ρ' xs' | o => o) = _
  rw [b]
  exact wU ps _ _ _ fun q hq => h q (List.mem_cons_of_mem _ hq)
def sb (p : Str) : Str := Txt.stripChars p (Str.ofString " ")
theorem wV (p : Str) : (sb p).length ≤ p.length := PyProof.Rows.len_stripChars _ _
theorem qq {p : Str} {c : Nat} (h : c ∈ (sb p).cps.toList) : c ∈ p.cps.toList := by
 unfold sb Txt.stripChars Txt.stripBy at h
 split at h
 · exact h
 · unfold stripped at h
   rw [gq] at h
   exact List.mem_of_mem_drop (List.mem_of_mem_take h)
def pts (x : Str) : List Str := (Txt.split x (Str.ofString ";")).map sb
theorem y3 : Str.ofString ";" = ⟨#[59]⟩ := by kernel_rfl
theorem qr {x : Str} {ρ : Ev} (hx : x.length ≤ 900) (h0 : ae 0 ρ = some (.ok (.str x))) : aP 1 [] (b7 (fM bN (ae 0) (aa (fC (.str ";")) al))) (gN 0) none (fM ez (ae 0) (aa (fC (.str " ")) al)) ρ = some (.ok (.lst ((pts x).map Dv.str))) := by
 have e1 : fM bN (ae 0) (aa (fC (.str ";")) al) ρ = some (.ok (.lst ((Txt.split x (Str.ofString ";")).map Dv.str))) := (i9 (x := x) h0 (ac (x := .str ";") rfl ai)).trans (eN (by omega) (by decide))
 have hl := c8 (x := x) (y := Str.ofString ";") (by decide)
 unfold pts
 rw [List.map_map]
 exact mS (cs := []) (src := b7 (fM bN (ae 0) (aa (fC (.str ";")) al))) (elt := fM ez (ae 0) (aa (fC (.str " ")) al)) (ρ := ρ) Dv.str (fun p => Dv.str (sb p)) (l := Txt.split x (Str.ofString ";")) (by unfold b7; rw [e1]; rfl) (by omega) fun p hp => (i9 (x := p) rfl (ac (x := .str " ") rfl ai)).trans (by
  have := gr hp
  show (if p.length ≤ 100000 then some (Rs.ok (Dv.str (Txt.stripChars p (Str.ofString " ")))) else none) = _
  rw [if_pos (by omega)]
  rfl)
theorem fH {x p : Str} (hx : x.length ≤ 900) (hv : Vs x.cps.toList) (hp : p ∈ pts x) : p.length ≤ 900 ∧ Vs p.cps.toList ∧ 59 ∉ p.cps.toList := by
 unfold pts at hp
 obtain ⟨q, hq, rfl⟩ := List.mem_map.mp hp
 refine ⟨Nat.le_trans (wV q) (Nat.le_trans (gr hq) hx), fun c hc => hv c (mV hq (qq hc)), fun hc => ?_⟩
 rw [y3] at hq
 exact StrLaws.split_free x 59 q hq (qq hc)
theorem wW (x : Str) : ∃ p ps, pts x = p :: ps := by
 unfold pts
 obtain ⟨p, r, e⟩ := cD x (Str.ofString ";")
 rw [e]
 exact ⟨_, _, rfl⟩
theorem sM {x : Str} (hx : x.length ≤ 900) : (pts x).length ≤ 901 := by
 unfold pts
 rw [List.length_map]
 have := c8 (x := x) (y := Str.ofString ";") (by decide)
 omega
theorem y6 {x : Str} (h : Vs x.cps.toList) : Sg x := fun c hc => by
 have := h c hc
 omega
end PT
namespace PT
open PySem PySem.Spec PyProof.Rows L2 FD PySem.Builtin.Str
def kv0 : DK.Kv := DK.putD (DK.putD [] (Str.ofString "safe") (.bl false)) (Str.ofString "reach") (.str (Str.ofString "any"))
def wA (p : Str) : Str := (Txt.partition p (Str.ofString "=")).1
def wM (p : Str) : Str := (Txt.partition p (Str.ofString "=")).2.1
def wZ (p : Str) : Str := (Txt.partition p (Str.ofString "=")).2.2
def j4 (p : Str) : Bool := seq (wM p) (Str.ofString "") || (!nB (wA p) || !wB (wZ p))
theorem z9 (A B : Dv) : row A B kv0 = [A, B, .non, .non, .non, .non, .bl false, .str (Str.ofString "any")] := by
 unfold row
 have g1 : gv kv0 (Str.ofString "for") = .non := by kernel_rfl
 have g2 : gv kv0 (Str.ofString "under") = .non := by kernel_rfl
 have g3 : gv kv0 (Str.ofString "until") = .non := by kernel_rfl
 have g4 : gv kv0 (Str.ofString "lasts") = .non := by kernel_rfl
 have g5 : gv kv0 (Str.ofString "safe") = .bl false := by kernel_rfl
 have g6 : gv kv0 (Str.ofString "reach") = .str (Str.ofString "any") := by kernel_rfl
 rw [g1, g2, g3, g4, g5, g6]
theorem j5 : ∀ ps : List Str, imms (ps.map Dv.str) = true
 | [] => rfl
 | p :: ps => j5 ps
theorem zy {α : Type} (p : α) (ps : List α) : lx (p :: ps) (some 1) none = ps := by
 unfold lx HT.sIx
 simp
theorem zz (p : Str) : (wA p).length ≤ p.length ∧ (wZ p).length ≤ p.length := by
 have := PyProof.Rows.fact_partition p (Str.ofString "=")
 unfold wA wZ
 omega
theorem y8 {x p : Str} {ps : List Str} (hx : x.length ≤ 900) (hv : Vs x.cps.toList) (e : pts x = p :: ps) : bt [.str x] = if j4 p = true then some (.exc 4) else some (.ok (.tup (row (.str (wA p)) (.str (wZ p)) (im ps kv0)))) := by
 obtain ⟨hp, _, _⟩ := fH (p := p) hx hv (by rw [e]; exact List.mem_cons_self)
 obtain ⟨hA, hZ⟩ := zz p
 obtain ⟨L, hL⟩ : ∃ L, L = Dv.lst ((p :: ps).map Dv.str) := ⟨_, rfl⟩
 obtain ⟨P, hP⟩ : ∃ P, P = Dv.tup [.str (wA p), .str (wM p), .str (wZ p)] := ⟨_, rfl⟩
 have s1 := qr (x := x) (ρ := [some (.str x), none, none, none, none, none]) hx rfl
 rw [e, ← hL] at s1
 have s2 : fM iE (f2 ixD (ae 1) (fC (.int 0))) (aa (fC (.str "=")) al) [some (.str x), some L, none, none, none, none] = some (.ok P) := (i9 (x := p) ((aq (x := L) (y := .int 0) rfl rfl).trans (by rw [hL]; rfl)) (ac (x := .str "=") rfl ai)).trans (by
  show (if (Str.ofString "=").length ≠ 0 ∧ p.length ≤ 100000 then some (Rs.ok (Dv.tup [.str (Txt.partition p (Str.ofString "=")).1, .str (Txt.partition p (Str.ofString "=")).2.1, .str (Txt.partition p (Str.ofString "=")).2.2])) else none) = _
  rw [if_pos ⟨by decide, by omega⟩, hP]
  rfl)
 have i0 : f2 ixD (ae 2) (fC (.int 0)) [some (.str x), some L, some P, none, none, none] = some (.ok (.str (wA p))) := (aq (x := P) (y := .int 0) rfl rfl).trans (by rw [hP]; rfl)
 have i1 : f2 ixD (ae 2) (fC (.int 1)) [some (.str x), some L, some P, none, none, none] = some (.ok (.str (wM p))) := (aq (x := P) (y := .int 1) rfl rfl).trans (by rw [hP]; rfl)
 have i2 : f2 ixD (ae 2) (fC (.int 2)) [some (.str x), some L, some P, none, none, none] = some (.ok (.str (wZ p))) := (aq (x := P) (y := .int 2) rfl rfl).trans (by rw [hP]; rfl)
 have c1 : fB (f2 eqX (f2 ixD (ae 2) (fC (.int 1))) (fC (.str ""))) [some (.str x), some L, some P, none, none, none] = some (.ok (seq (wM p) (Str.ofString ""))) := aK ((aq (y := .str "") i1 rfl).trans rfl)
 have c2 := dj (aK (ci bc i0 (y0 (a := wA p) (by omega))))
 have c3 := dj (aK (ci cC i2 (yZ (b := wZ p) (by omega))))
 have c := eV c1 (eV c2 c3)
 have c0 : (eQ (fB (f1 (nu eS) (ae 0)))) [some (.str x), none, none, none, none, none] = some (.ok false) := rfl
 have body : a5 [some (.str x), none, none, none, none, none] = if j4 p = true then some (.exc 4) else some (.rt (.tup (row (.str (wA p)) (.str (wZ p)) (im ps kv0)))) := by
  unfold a5
  rw [az (cA c0), az (aJ (ρ' := [some (.str x), some L, none, none, none, none]) s1 rfl), az (aJ (ρ' := [some (.str x), some L, some P, none, none, none]) s2 rfl)]
  by_cases hb : j4 p = true
  · rw [if_pos hb]
    unfold j4 at hb
    rw [hb] at c
    exact z7 (yV c rfl)
  · rw [if_neg hb]
    rw [Bool.not_eq_true] at hb
    unfold j4 at hb
    rw [hb] at c
    rw [az (cA c)]
    unfold vD
    have a8 : (aa (f2 ixD (ae 2) (fC (.int 0))) (aa (f2 ixD (ae 2) (fC (.int 2))) (aa (fC .non) (aa (fC .non) (aa (fC .non) (aa (fC .non) (aa (fC (.bl false)) (aa (fC (.str "any")) al)))))))) [some (.str x), some L, some P, none, none, none] = some (.ok (row (.str (wA p)) (.str (wZ p)) kv0)) := by
     rw [z9]
     exact ac i0 (ac i2 (ac (x := .non) rfl (ac (x := .non) rfl (ac (x := .non) rfl (ac (x := .non) rfl (ac (x := .bl false) rfl (ac (x := .str "any") rfl ai)))))))
    rw [a8]
    show (if (row (.str (wA p)) (.str (wZ p)) kv0).length ≤ 100000 then _ else none) = _
    rw [if_pos (show (row (.str (wA p)) (.str (wZ p)) kv0).length ≤ 100000 by show 8 ≤ 100000; decide)]
    have src : b7 (nr (ae 1) (aL (fC (.int 1))) aO) [some (.str x), some L, some P, none, none, none] = some (.ok (ps.map Dv.str)) := by
     rw [hL]
     show some (Rs.ok (lx ((p :: ps).map Dv.str) (some 1) none)) = _
     rw [List.map_cons, zy]
    have lp : p8 4 [4, 5] (b7 (nr (ae 1) (aL (fC (.int 1))) aO)) aw [some (.str x), some L, some P, none, none, none] (row (.str (wA p)) (.str (wZ p)) kv0) = some (.nx [some (.str x), some L, some P, none, none, none] (row (.str (wA p)) (.str (wZ p)) (im ps kv0))) := by
     unfold p8
     rw [src]
     show (if imms (ps.map Dv.str) = true then _ else none) = _
     rw [if_pos (j5 ps)]
     exact wU ps _ _ _ fun q hq => by
      have := (fH (p := q) hx hv (by rw [e]; exact List.mem_cons_of_mem _ hq)).1
      omega
    have : (p6 (p8 4 [4, 5] (b7 (nr (ae 1) (aL (fC (.int 1))) aO)) aw) (vA 3 (fB1 gR (aa (ae 3) al)))) [some (.str x), some L, some P, none, none, none] (row (.str (wA p)) (.str (wZ p)) kv0) = some (.rt (.tup (row (.str (wA p)) (.str (wZ p)) (im ps kv0)))) := by
     unfold p6
     rw [lp]
     rfl
    show (match (p6 (p8 4 [4, 5] (b7 (nr (ae 1) (aL (fC (.int 1))) aO)) aw) (vA 3 (fB1 gR (aa (ae 3) al)))) [some (.str x), some L, some P, none, none, none] (row (.str (wA p)) (.str (wZ p)) kv0) with | some (.nx ρ' ds') => some (Fl.nx (ρ'.set 3 (some (.lst ds')))) | some (.rt d) => some (.rt d) | none => none) = _
    rw [this]
 by_cases hb : j4 p = true
 · rw [if_pos hb] at body ⊢
   exact z6 body
 · rw [if_neg hb] at body ⊢
   exact yU body
def sZ : Dv := .tup [.str (Str.ofString "refused"), .int 4]
theorem wX {x p : Str} {ps : List Str} (hx : x.length ≤ 900) (hv : Vs x.cps.toList) (e : pts x = p :: ps) : aF [.str x] = some (.ok (if j4 p = true then sZ else .tup (row (.str (wA p)) (.str (wZ p)) (im ps kv0)))) := by
 refine bO ?_
 show bC [some (.str x), none] = _
 have h := y8 hx hv e
 have c := cE bt (n := 1) (g := aa (ae 0) al) (ρ := [some (.str x), none]) (ac (x := .str x) rfl ai) rfl h
 unfold bC xn
 rw [c]
 by_cases hb : j4 p = true
 · rw [if_pos hb, if_pos hb]
   kernel_rfl
 · rw [if_neg hb, if_neg hb]
end PT
namespace PT
open PySem PySem.Spec PyProof.Rows L2 FD PySem.Builtin.Str
theorem jd : Str.ofString "=" = ⟨#[61]⟩ := by kernel_rfl
theorem jf {k : Str} : ∀ (ps : List Str) (kv : DK.Kv), (DK.valD kv k).isSome = true → (DK.valD (im ps kv) k).isSome = true
 | [], kv, h => h
 | p :: ps, kv, h => by
  refine jf ps (ky kv (tl p)) ?_
  cases tl p with
  | none => exact h
  | some z =>
   obtain ⟨i, d⟩ := z
   show (DK.valD (DK.putD kv (qm i) d) k).isSome = true
   rw [ni]
   split
   · rfl
   · exact h
theorem qt {kv : DK.Kv} {k : Str} (h : (DK.valD kv k).isSome = true) : DK.valD kv k = some (gv kv k) := by
 obtain ⟨v, hv⟩ := Option.isSome_iff_exists.mp h
 unfold gv
 rw [hv]
 rfl
def bl2 : Str := Str.ofString " ,"
theorem wY : (vis.all fun c => c == 61 || c == 59 || (wC c == !decide (c ∈ bl2.cps.toList))) = true := by kernel_rfl
theorem w5 {b : List Nat} (h : Vs b) (h1 : 61 ∉ b) (h2 : 59 ∉ b) : b.all wC = (b.filter fun c => decide (c ∈ bl2.cps.toList)).isEmpty := by
 rw [Bool.eq_iff_iff, List.isEmpty_iff, List.filter_eq_nil_iff, List.all_eq_true]
 have key : ∀ c ∈ b, wC c = !decide (c ∈ bl2.cps.toList) := fun c hc => by
  have := List.all_eq_true.mp wY c (ng (h c hc))
  have n1 : (c == 61) = false := beq_eq_false_iff_ne.mpr fun (z : c = 61) => h1 (z ▸ hc)
  have n2 : (c == 59) = false := beq_eq_false_iff_ne.mpr fun (z : c = 59) => h2 (z ▸ hc)
  rw [n1, n2, Bool.false_or, Bool.false_or] at this
  exact eq_of_beq this
 constructor
 · intro hh c hc
   have := hh c hc
   rw [key c hc] at this
   simpa using this
 · intro hh c hc
   rw [key c hc]
   have := hh c hc
   simpa using this
theorem sN {x a b p : Str} {ps : List Str} {S : Dv} (hx : x.length ≤ 900) (hv : Vs x.cps.toList) (e : pts x = p :: ps) (hS : S = .lst [.str a, .str b]) :
 (DK.fDict2 3 (fC (.str "safe")) (fC (.bl false)) (fC (.str "reach")) (fC (.str "any")) (DK.dForL 4 (bp (ae 1) (aL (fC (.int 1))) aO) aC) (DK.rSetR 5 (DK.vTup (DK.vaCons (DK.vE (f2 ixD (ae 2) (fC (.int 0)))) (DK.vaCons (DK.vE (f2 ixD (ae 2) (fC (.int 1)))) (DK.vaCons (DK.vGet1 (fC (.str "for"))) (DK.vaCons (DK.vGet1 (fC (.str "under"))) (DK.vaCons (DK.vGet1 (fC (.str "until"))) (DK.vaCons (DK.vGet1 (fC (.str "lasts"))) DK.vaNil))))))) (DK.rRet (DK.v2 bn (DK.vE (ae 5)) (DK.vTup (DK.vaCons (DK.vIdx (fC (.str "safe"))) (DK.vaCons (DK.vIdx (fC (.str "reach"))) DK.vaNil))))))) [some (.str x), some (.lst ((p :: ps).map Dv.str)), some S, none, none, none] = some (.rt (.tup (row (.str a) (.str b) (im ps kv0)))) := by
 have hpl := sM hx
 rw [e, List.length_cons] at hpl
 obtain ⟨y4, lp⟩ := wT (x0 := some (.str x)) (x1 := some (.lst ((p :: ps).map Dv.str))) (x2 := some S) (x3 := none) (x5 := none) ps none kv0 (fun q hq => by
  have := fH (p := q) hx hv (by rw [e]; exact List.mem_cons_of_mem _ hq)
  exact ⟨by omega, y6 this.2.1⟩) (by show 2 + ps.length < 80000; omega)
 have fr : DK.dForL 4 (bp (ae 1) (aL (fC (.int 1))) aO) aC [some (.str x), some (.lst ((p :: ps).map Dv.str)), some S, none, none, none] kv0 = some ([some (.str x), some (.lst ((p :: ps).map Dv.str)), some S, none, y4, none], im ps kv0) := by
  show DK.loopD 4 aC (lx ((p :: ps).map Dv.str) (some 1) none) _ kv0 = _
  rw [List.map_cons, zy]
  exact lp
 obtain ⟨kv, hkv⟩ : ∃ kv, kv = im ps kv0 := ⟨_, rfl⟩
 have k1 : DK.valD kv (Str.ofString "safe") = some (gv kv (Str.ofString "safe")) := qt (by rw [hkv]; exact jf ps kv0 (by kernel_rfl))
 have k2 : DK.valD kv (Str.ofString "reach") = some (gv kv (Str.ofString "reach")) := qt (by rw [hkv]; exact jf ps kv0 (by kernel_rfl))
 rw [← hkv] at fr ⊢
 unfold DK.fDict2
 show (match DK.dForL 4 (bp (ae 1) (aL (fC (.int 1))) aO) aC [some (.str x), some (.lst ((p :: ps).map Dv.str)), some S, none, none, none] kv0 with | some (ρ1, kv1) => _ | none => none) = _
 rw [fr]
 subst hS
 have t2 : (DK.vTup (DK.vaCons (DK.vIdx (fC (.str "safe"))) (DK.vaCons (DK.vIdx (fC (.str "reach"))) DK.vaNil))) [some (.str x), some (.lst ((p :: ps).map Dv.str)), some (.lst [.str a, .str b]), none, y4, some (.tup [.str a, .str b, gv kv (Str.ofString "for"), gv kv (Str.ofString "under"), gv kv (Str.ofString "until"), gv kv (Str.ofString "lasts")])] kv = some (.tup [gv kv (Str.ofString "safe"), gv kv (Str.ofString "reach")]) := by
  have i1 : DK.vIdx (fC (.str "safe")) [some (.str x), some (.lst ((p :: ps).map Dv.str)), some (.lst [.str a, .str b]), none, y4, some (.tup [.str a, .str b, gv kv (Str.ofString "for"), gv kv (Str.ofString "under"), gv kv (Str.ofString "until"), gv kv (Str.ofString "lasts")])] kv = some (gv kv (Str.ofString "safe")) := k1
  have i2 : DK.vIdx (fC (.str "reach")) [some (.str x), some (.lst ((p :: ps).map Dv.str)), some (.lst [.str a, .str b]), none, y4, some (.tup [.str a, .str b, gv kv (Str.ofString "for"), gv kv (Str.ofString "under"), gv kv (Str.ofString "until"), gv kv (Str.ofString "lasts")])] kv = some (gv kv (Str.ofString "reach")) := k2
  unfold DK.vTup DK.vaCons
  rw [i1, i2]
  rfl
 show DK.rRet (DK.v2 bn (DK.vE (ae 5)) (DK.vTup (DK.vaCons (DK.vIdx (fC (.str "safe"))) (DK.vaCons (DK.vIdx (fC (.str "reach"))) DK.vaNil)))) [some (.str x), some (.lst ((p :: ps).map Dv.str)), some (.lst [.str a, .str b]), none, y4, some (.tup [.str a, .str b, gv kv (Str.ofString "for"), gv kv (Str.ofString "under"), gv kv (Str.ofString "until"), gv kv (Str.ofString "lasts")])] kv = _
 unfold DK.rRet DK.v2
 rw [t2]
 rfl
end PT
namespace PT
open PySem PySem.Spec PyProof.Rows L2 FD PySem.Builtin.Str
theorem gw {c : FnB} {rest : FnS} {ρ : Ev} {b : Bool} (hc : c ρ = some (.ok b)) : aT (bL c (bD (cU (aa (fC (.str "refused")) (aa (fC (.int 4)) al)))) (fun ρ => some (.nx ρ))) rest ρ = if b = true then some (.rt sZ) else rest ρ :=
 cQ hc fun _ => dk (ac (x := .str "refused") rfl (ac (x := .int 4) rfl ai)) (by show 2 ≤ 100000; decide)
theorem y9 {x p : Str} {ps : List Str} (hx : x.length ≤ 900) (hv : Vs x.cps.toList) (e : pts x = p :: ps) : a9 [.str x] = some (.ok (if j4 p = true then sZ else .tup (row (.str (wA p)) (.str (wZ p)) (im ps kv0)))) := by
 refine bO ?_
 show cB [some (.str x), none, none, none, none, none] = _
 obtain ⟨hp, hpv, hp59⟩ := fH (p := p) hx hv (by rw [e]; exact List.mem_cons_self)
 obtain ⟨hA, hZ⟩ := zz p
 obtain ⟨L, hL⟩ : ∃ L, L = Dv.lst ((p :: ps).map Dv.str) := ⟨_, rfl⟩
 have s1 := qr (x := x) (ρ := [some (.str x), none, none, none, none, none]) hx rfl
 rw [e, ← hL] at s1
 obtain ⟨S, hS⟩ : ∃ S, S = Dv.lst ((Txt.split p (Str.ofString "=")).map Dv.str) := ⟨_, rfl⟩
 have s2 : fM bN (f2 ixD (ae 1) (fC (.int 0))) (aa (fC (.str "=")) al) [some (.str x), some L, none, none, none, none] = some (.ok S) := (i9 (x := p) ((aq (x := L) (y := .int 0) rfl rfl).trans (by rw [hL]; rfl)) (ac (x := .str "=") rfl ai)).trans (by
  rw [eN (by omega) (by decide), hS])
 have cl : fB (f2 neX (fB1 b9 (aa (ae 2) al)) (fC (.int 2))) [some (.str x), some L, some S, none, none, none] = some (.ok (!decide ((Txt.split p (Str.ofString "=")).length = 2))) := aK ((aq (x := .int ((Txt.split p (Str.ofString "=")).length : Int)) (y := .int 2) ((bx (ac (x := S) rfl ai)).trans (by rw [hS]; show some (Rs.ok (Dv.int ((List.map Dv.str (Txt.split p (Str.ofString "="))).length : Int))) = _; rw [List.length_map])) rfl).trans (by
  show some (Rs.ok (Dv.bl (!(((Txt.split p (Str.ofString "=")).length : Int) == 2)))) = _
  congr 4
  rw [Bool.eq_iff_iff, decide_eq_true_eq, beq_iff_eq]
  omega))
 unfold cB
 rw [az (aJ (ρ' := [some (.str x), some L, none, none, none, none]) s1 rfl), az (aJ (ρ' := [some (.str x), some L, some S, none, none, none]) s2 rfl)]
 have away : (Txt.split p (Str.ofString "=")).length ≠ 2 → j4 p = true → ∀ (c : FnB) (rest : FnS), aT (bL (bOr (fB (f2 neX (fB1 b9 (aa (ae 2) al)) (fC (.int 2)))) c) (bD (cU (aa (fC (.str "refused")) (aa (fC (.int 4)) al)))) (fun ρ => some (.nx ρ))) rest [some (.str x), some L, some S, none, none, none] = some (.rt (if j4 p = true then sZ else .tup (row (.str (wA p)) (.str (wZ p)) (im ps kv0)))) := fun h1 h2 c rest => by
  have : (!decide ((Txt.split p (Str.ofString "=")).length = 2)) = true := by simpa using h1
  rw [this] at cl
  rw [gw (u0 cl), if_pos rfl, if_pos h2]
 have hz : ∀ l : List Nat, (⟨l.toArray⟩ : Str).cps.toList = l := fun l => rfl
 rcases spl p 61 with ⟨n1, sp⟩ | ⟨a, b, ep, na, ⟨nb, sp⟩ | ⟨yb, sp⟩⟩
 · refine away (by rw [jd, sp]; simp) ?_ _ _
   rcases bu p 61 with ⟨_, pc⟩ | ⟨a', b', ec, _, _⟩
   · unfold j4 wM
     rw [jd, pc, show seq Str.empty (Str.ofString "") = true by kernel_rfl]
     rfl
   · exact absurd (by rw [ec]; simp) n1
 · obtain ⟨q1, q2, q3⟩ : wA p = ⟨a.toArray⟩ ∧ seq (wM p) (Str.ofString "") = false ∧ wZ p = ⟨b.toArray⟩ := by
    rcases bu p 61 with ⟨pn, _⟩ | ⟨a', b', ec, na', pc⟩
    · exact absurd (by rw [ep]; simp) pn
    · obtain ⟨r1, r2⟩ := d4 (ep.symm.trans ec) na na'
      subst r1; subst r2
      unfold wA wM wZ
      rw [jd, pc]
      exact ⟨rfl, by kernel_rfl, rfl⟩
   rw [← q1, ← q3] at sp
   rw [← jd] at sp
   have ha : Vs (wA p).cps.toList := fun c hc => hpv c (by rw [ep]; rw [q1] at hc; exact List.mem_append_left _ hc)
   have hb : Vs (wZ p).cps.toList := fun c hc => hpv c (by rw [ep]; rw [q3] at hc; exact List.mem_append_right _ (List.mem_cons_of_mem _ hc))
   have hb1 : 61 ∉ (wZ p).cps.toList := by rw [q3]; exact nb
   have hb2 : 59 ∉ (wZ p).cps.toList := fun hc => hp59 (by rw [ep]; rw [q3] at hc; exact List.mem_append_right _ (List.mem_cons_of_mem _ hc))
   unfold j4
   rw [q2, Bool.false_or]
   generalize hgA : wA p = A at *
   generalize hgB : wZ p = B at *
   rw [sp] at hS cl
   have hS2 : S = .lst [.str A, .str B] := hS
   have i0 : f2 ixD (ae 2) (fC (.int 0)) [some (.str x), some L, some S, none, none, none] = some (.ok (.str A)) := (aq (x := S) (y := .int 0) rfl rfl).trans (by rw [hS2]; rfl)
   have i1 : f2 ixD (ae 2) (fC (.int 1)) [some (.str x), some L, some S, none, none, none] = some (.ok (.str B)) := (aq (x := S) (y := .int 1) rfl rfl).trans (by rw [hS2]; rfl)
   have lA : fB1 b9 (aa (f2 ixD (ae 2) (fC (.int 0))) al) [some (.str x), some L, some S, none, none, none] = some (.ok (.int (A.length : Int))) := (bx (ac i0 ai)).trans (len_str (by omega))
   have lB : fB1 b9 (aa (f2 ixD (ae 2) (fC (.int 1))) al) [some (.str x), some L, some S, none, none, none] = some (.ok (.int (B.length : Int))) := (bx (ac i1 ai)).trans (len_str (by omega))
   have c2 : fB (fg leX leX (fC (.int 1)) (fB1 b9 (aa (f2 ixD (ae 2) (fC (.int 0))) al)) (fC (.int 10))) [some (.str x), some L, some S, none, none, none] = some (.ok (decide ((1 : Int) ≤ (A.length : Int)) && decide ((A.length : Int) ≤ 10))) := aK (by
    unfold fg
    rw [lA]
    show (if decide ((1 : Int) ≤ (A.length : Int)) = true then some (Rs.ok (Dv.bl (decide ((A.length : Int) ≤ 10)))) else some (Rs.ok (Dv.bl false))) = _
    cases decide ((1 : Int) ≤ (A.length : Int)) <;> rfl)
   have c3 : fB (f2 gtD (fB1 b9 (aa (f2 ixD (ae 2) (fC (.int 1))) al)) (fC (.int 12))) [some (.str x), some L, some S, none, none, none] = some (.ok (decide ((B.length : Int) > 12))) := aK ((aq (y := .int 12) lB rfl).trans rfl)
   have k1 := eV cl (eV (dj c2) c3)
   have k2 : eQ (fB (xo (kq "_" "a" (kq "-" "_" (f2 ixD (ae 2) (fC (.int 0))))))) [some (.str x), some L, some S, none, none, none] = some (.ok (!(decide (0 < A.length) && bT A nsg))) := dj (aK (by
    unfold xo kq
    rw [i0]
    show bnd (bnd (if A.length ≤ 100000 then some (Rs.ok (Dv.str (Txt.replace A (Str.ofString "-") (Str.ofString "_")))) else none) fun d => _) _ = _
    rw [if_pos (by omega)]
    show bnd (if (Txt.replace A (Str.ofString "-") (Str.ofString "_")).length ≤ 100000 then some (Rs.ok (Dv.str (Txt.replace (Txt.replace A (Str.ofString "-") (Str.ofString "_")) (Str.ofString "_") (Str.ofString "a")))) else none) _ = _
    have : (Txt.replace A (Str.ofString "-") (Str.ofString "_")).length = A.length := by
     have h1 : Str.ofString "-" = ⟨#[45]⟩ := by kernel_rfl
     have h2 : Str.ofString "_" = ⟨#[95]⟩ := by kernel_rfl
     have := congrArg List.length (eP A 45 95)
     rw [List.length_map, Array.length_toList, Array.length_toList, ← h1, ← h2] at this
     exact this
    rw [if_pos (by omega)]
    show some (Rs.ok (Dv.bl (Txt.isalnum (Txt.replace (Txt.replace A (Str.ofString "-") (Str.ofString "_")) (Str.ofString "_") (Str.ofString "a"))))) = _
    rw [wR ha]))
   have cm := ic (cs := []) (src := b7 (f2 ixD (ae 2) (fC (.int 1)))) (tst := fB (f2 inX (ae 0) (fC (.str " ,")))) (elt := ae 0) (ρ := [some (.str x), some L, some S, none, none, none]) one (fun c => decide (c ∈ bl2.cps.toList)) one (l := B.cps.toList) (by unfold b7; rw [i1]; rfl) (by rw [Array.length_toList]; exact Nat.le_trans hZ (by omega)) fun c _ => ⟨aK ((aq (x := one c) (y := .str " ,") rfl rfl).trans (by
    show some (Rs.ok (Dv.bl (inS ⟨#[c]⟩ bl2))) = _
    rw [i8])), rfl⟩
   have n1 := jY (l := B.cps.toList.filter fun c => decide (c ∈ bl2.cps.toList)) fun c hc => by
    have := hb c (List.mem_filter.mp hc).1
    omega
   have k3 : fB (f2 neX (b8 [] (b7 (f2 ixD (ae 2) (fC (.int 1)))) (some (fB (f2 inX (ae 0) (fC (.str " ,"))))) (ae 0)) (gx al)) [some (.str x), some L, some S, none, none, none] = some (.ok (!(B.cps.toList.filter fun c => decide (c ∈ bl2.cps.toList)).isEmpty)) := aK ((aq (g := neX) cm (lC ai (by show 0 ≤ 100000; decide))).trans n1)
   rw [← w5 hb hb1 hb2] at k3
   rw [gw k1, gw k2, gw k3]
   have dd := sN (a := A) (b := B) (S := S) hx hv e hS2
   rw [hL]
   rw [dd]
   have hl2 : decide (([A, B] : List Str).length = 2) = true := rfl
   rw [hl2]
   unfold nB wB
   have hn : decide (0 < A.length) = decide ((1 : Int) ≤ (A.length : Int)) := decide_eq_decide.mpr (by omega)
   have hw : decide ((B.length : Int) > 12) = !decide (B.length ≤ 12) := by
    rw [← decide_not]
    exact decide_eq_decide.mpr (by omega)
   rw [hn, hw]
   cases decide ((1 : Int) ≤ (A.length : Int)) <;> cases decide ((A.length : Int) ≤ 10) <;> cases bT A nsg <;> cases decide (B.length ≤ 12) <;> cases B.cps.toList.all wC <;> rfl
 · refine away (by rw [jd]; omega) ?_ _ _
   have q3 : wZ p = ⟨b.toArray⟩ := by
    rcases bu p 61 with ⟨pn, _⟩ | ⟨a', b', ec, na', pc⟩
    · exact absurd (by rw [ep]; simp) pn
    · obtain ⟨r1, r2⟩ := d4 (ep.symm.trans ec) na na'
      unfold wZ
      rw [jd, pc, r2]
   have : wB (wZ p) = false := by
    unfold wB
    have : (wZ p).cps.toList.all wC = false := by
     rw [List.all_eq_false]
     exact ⟨61, by rw [q3]; exact yb, by decide⟩
    rw [this, Bool.and_false]
   unfold j4
   rw [this, Bool.not_false, Bool.or_true, Bool.or_true]
end PT
namespace PT
open PySem PySem.Spec PyProof.Rows L2 FD PySem.Builtin.Str
theorem nj {x : Str} (h : Vs x.cps.toList) : It1 0 (.str x) := mT (by
 show x.cps.all (fun c => decide (c < 0x110000)) = true
 rw [← Array.all_toList, List.all_eq_true]
 intro c hc
 have := h c hc
 simp
 omega)
theorem za {s : Str} {i : Int} {d : Dv} (hs : Vs s.cps.toList) (h : tl s = some (i, d)) : It1 0 d := by
 have hp : Vs (pr s).cps.toList := fun c hc => by
  unfold pr at hc
  rw [kx] at hc
  rcases bu s 32 with ⟨_, e⟩ | ⟨a, b, e, _, ep⟩
  · rw [e] at hc
    exact absurd hc (by simp [Str.empty])
  · rw [ep] at hc
    exact hs c (by rw [e]; exact List.mem_append_right _ (List.mem_cons_of_mem _ hc))
 unfold tl at h
 split at h
 · cases h; exact wI
 split at h
 · cases h; exact nj hs
 split at h
 · cases h; exact nj hp
 split at h
 · cases h; exact nj hp
 split at h
 · cases h; exact qj
 split at h
 · cases h; exact qj
 · cases h
def Kit (kv : DK.Kv) : Prop := ∀ k, It1 0 (gv kv k)
theorem jg {kv : DK.Kv} {k : Str} {d : Dv} (h : Kit kv) (hd : It1 0 d) : Kit (DK.putD kv k d) := fun k' => by
 rw [qp]
 split
 · exact hd
 · exact h k'
theorem nk : ∀ (ps : List Str) (kv : DK.Kv), (∀ p ∈ ps, Vs p.cps.toList) → Kit kv → Kit (im ps kv)
 | [], kv, _, h => h
 | p :: ps, kv, hp, h => by
  refine nk ps (ky kv (tl p)) (fun q hq => hp q (List.mem_cons_of_mem _ hq)) ?_
  cases q : tl p with
  | none => exact h
  | some z =>
   obtain ⟨i, d⟩ := z
   exact jg h (za (hp p List.mem_cons_self) q)
theorem Aa : Kit kv0 := jg (jg (fun k => wJ) wI) (mT (by kernel_rfl))
theorem w6 {x : Str} (hx : x.length ≤ 900) (hv : Vs x.cps.toList) : ∃ V, aF [.str x] = some (.ok V) ∧ a9 [.str x] = some (.ok V) ∧ neX V V = some (.ok (.bl false)) := by
 obtain ⟨p, ps, e⟩ := wW x
 refine ⟨_, wX hx hv e, y9 hx hv e, ?_⟩
 split
 · kernel_rfl
 · have hk : Kit (im ps kv0) := nk ps kv0 (fun q hq => (fH (p := q) hx hv (by rw [e]; exact List.mem_cons_of_mem _ hq)).2.1) Aa
   obtain ⟨_, hpv, _⟩ := fH (p := p) hx hv (by rw [e]; exact List.mem_cons_self)
   have h1 : Vs (wA p).cps.toList ∧ Vs (wZ p).cps.toList := by
    unfold wA wZ
    rw [jd]
    rcases bu p 61 with ⟨_, ep⟩ | ⟨a, b, ec, _, ep⟩
    · rw [ep]
      exact ⟨hpv, fun c hc => absurd hc (by simp [Str.empty])⟩
    · rw [ep]
      exact ⟨fun c hc => hpv c (by rw [ec]; exact List.mem_append_left _ hc), fun c hc => hpv c (by rw [ec]; exact List.mem_append_right _ (List.mem_cons_of_mem _ hc))⟩
   have it : It1 1 (.tup (row (.str (wA p)) (.str (wZ p)) (im ps kv0))) := wG fun d hd => by
    unfold row at hd
    simp only [List.mem_cons, List.not_mem_nil, or_false] at hd
    rcases hd with rfl | rfl | rfl | rfl | rfl | rfl | rfl | rfl
    · exact nj h1.1
    · exact nj h1.2
    · exact hk _
    · exact hk _
    · exact hk _
    · exact hk _
    · exact hk _
    · exact hk _
   exact sy (it.okP (by omega)) it.p
structure Tx (n : Nat) (x : Str) : Prop where
 l : x.length ≤ n
 v : Vs x.cps.toList
theorem Tx.le {n m : Nat} {x : Str} (h : Tx n x) (hm : n ≤ m) : Tx m x := ⟨Nat.le_trans h.l hm, h.v⟩
theorem Tx.app {n m : Nat} {x y : Str} (h : Tx n x) (h' : Tx m y) : Tx (n + m) (x ++ y) := by
 refine ⟨?_, fun c hc => ?_⟩
 · have : (x ++ y).length = x.length + y.length := Array.size_append
   have := h.l
   have := h'.l
   omega
 · rw [show (x ++ y).cps.toList = x.cps.toList ++ y.cps.toList from Array.toList_append] at hc
   rcases List.mem_append.mp hc with z | z
   · exact h.v c z
   · exact h'.v c z
theorem nl {x : Str} {lo hi : Option Int} {c : Nat} (h : c ∈ (Txt.slice x lo hi).cps.toList) : c ∈ x.cps.toList := by
 unfold Txt.slice at h
 split at h
 · exact h
 · have h2 : c ∈ (strSliceIndices lo hi 1 x.length).filterMap fun i => x.cps[i]? := h
   obtain ⟨i, _, hi⟩ := List.mem_filterMap.mp h2
   rw [← Array.getElem?_toList] at hi
   exact List.mem_of_getElem? hi
theorem Tx.cut {n : Nat} {x : Str} (h : Tx n x) (lo hi : Option Int) : Tx n (Txt.slice x lo hi) := ⟨Nat.le_trans (Txt.slice_le _ _ _) h.l, fun c hc => h.v c (nl hc)⟩
def txB (n : Nat) (x : Str) : Bool := decide (x.length ≤ n) && x.cps.toList.all fun c => decide (32 ≤ c) && decide (c ≤ 126)
theorem pq {n : Nat} {x : Str} (h : txB n x = true) : Tx n x := by
 unfold txB at h
 rw [Bool.and_eq_true, decide_eq_true_eq, List.all_eq_true] at h
 refine ⟨h.1, fun c hc => ?_⟩
 have := h.2 c hc
 simpa using this
theorem bJ {n m : Nat} {x y : Str} (h : Tx n x) (h' : Tx m y) (hn : n + m ≤ 900) : bn (.str x) (.str y) = some (.ok (.str (x ++ y))) := by
 have := h.l
 have := h'.l
 show (if x.length + y.length ≤ 100000 then _ else none) = _
 rw [if_pos (by omega)]
theorem sO {n : Nat} {x : Str} (h : Tx n x) (hn : n ≤ 900) (lo hi : Option Int) : yx (.str x) lo hi = some (.ok (.str (Txt.slice x lo hi))) := by
 have := h.l
 show (if x.length ≤ 100000 then _ else none) = _
 rw [if_pos (by omega)]
end PT
namespace PT
open PySem PySem.Spec PyProof.Rows L2 FD PySem.Builtin.Str
def firsts : List Str := [Str.ofString "n=5", Str.ofString " n=5 ", Str.ofString "N_2=", Str.ofString "=5", Str.ofString "n", Str.ofString "n=5=6", Str.ofString "n =5", Str.ofString "n= 5", Str.ofString "safe-a=x/y", Str.ofString "n=a,b", Str.ofString "12345678901=1", Str.ofString "n=a b", Str.ofString "", Str.ofString "n=1234567890123", Str.ofString "n-_1=~!"]
def somes : List Str := [Str.ofString "safe", Str.ofString "near", Str.ofString "any", Str.ofString "for a.b", Str.ofString "for c.uk", Str.ofString "for", Str.ofString "for a b", Str.ofString "for A.b", Str.ofString "until 7", Str.ofString "until 00012", Str.ofString "until 0012", Str.ofString "until -1", Str.ofString "lasts 30", Str.ofString "lasts", Str.ofString "lasts x", Str.ofString "under /x", Str.ofString "under x", Str.ofString "under /", Str.ofString "Safe", Str.ofString "", Str.ofString " ", Str.ofString "x=y", Str.ofString "for  b", Str.ofString "foo 7", Str.ofString "made 7", Str.ofString "for 7", Str.ofString "safe 7"]
theorem w8 : ∀ x ∈ firsts, Tx 20 x := fun x hx => pq (List.all_eq_true.mp (show firsts.all (txB 20) = true by kernel_rfl) x hx)
theorem sP : ∀ x ∈ somes, Tx 20 x := fun x hx => pq (List.all_eq_true.mp (show somes.all (txB 20) = true by kernel_rfl) x hx)
def FL : Dv := .lst (firsts.map Dv.str)
def SL : Dv := .lst (somes.map Dv.str)
theorem qu {l : List Str} {i : Int} (h0 : 0 ≤ i) (h1 : i < l.length) : ∃ x ∈ l, ixD (.lst (l.map Dv.str)) (.int i) = some (.ok (.str x)) := by
 have h2 : i.toNat < l.length := by omega
 refine ⟨l[i.toNat], List.getElem_mem _, ?_⟩
 show (match atD (l.map Dv.str) i with | some d => some (Rs.ok d) | none => none) = _
 unfold atD
 rw [if_pos h0, List.getElem?_eq_getElem (by rw [List.length_map]; exact h2), List.getElem_map]
theorem w9 {n : Int} (h0 : 0 ≤ n) (h1 : n < 3) : ∃ x, Tx 3 x ∧ vp (.str (Str.ofString " ")) (.int n) = some (.ok (.str x)) := by
 have : n = 0 ∨ n = 1 ∨ n = 2 := by omega
 rcases this with rfl | rfl | rfl
 · exact ⟨Str.ofString "", pq (by kernel_rfl), by kernel_rfl⟩
 · exact ⟨Str.ofString " ", pq (by kernel_rfl), by kernel_rfl⟩
 · exact ⟨Str.ofString "  ", pq (by kernel_rfl), by kernel_rfl⟩
theorem ij : Tx 1 (Str.ofString ";") := pq (by kernel_rfl)
theorem sQ : Tx 1 (Str.ofString "=") := pq (by kernel_rfl)
theorem more {ns : List Int} (hl : ns.length ≤ 63) {x : Str} {n : Nat} {k : Nat} {t5 t6 : Option Dv} (hn : n + 27 ≤ 800) (hx : Tx n x) : ∃ y p b, Tx (n + 27) y ∧ cu [some (.scr ns), some FL, some SL, some (.str x), some (.int (k : Int)), t5, t6, none, none, none] = some (.nx [some (.scr ns), some FL, some SL, some (.str y), some (.int (k : Int)), some p, some b, none, none, none]) := by
 obtain ⟨d1, a1, a2, e1⟩ := bG ns hl (3 + 4 * (k : Int)) 27 (by omega)
 obtain ⟨d2, b1, b2, e2⟩ := bG ns hl (4 + 4 * (k : Int)) 3 (by omega)
 obtain ⟨d3, c1, c2, e3⟩ := bG ns hl (5 + 4 * (k : Int)) 2 (by omega)
 obtain ⟨p, hp, i1⟩ := qu (l := somes) a1 a2
 obtain ⟨b, tb, i2⟩ := w9 b1 b2
 obtain ⟨z, tz, i3⟩ := w9 c1 (show d3 < 3 by omega)
 have tp := sP p hp
 refine ⟨x ++ Str.ofString ";" ++ b ++ p ++ z, .str p, .str b, ((((hx.app ij).app tb).app tp).app tz).le (by omega), ?_⟩
 obtain ⟨ρ0, r0⟩ : ∃ ρ : Ev, ρ = [some (.scr ns), some FL, some SL, some (.str x), some (.int (k : Int)), t5, t6, none, none, none] := ⟨_, rfl⟩
 have sc : ∀ (m : Int) (ρ : Ev), ρ[4]? = some (some (.int (k : Int))) → f2 bn (fC (.int m)) (f2 dh (fC (.int 4)) (ae 4)) ρ = some (.ok (.int (m + 4 * (k : Int)))) := fun m ρ h4 => (aq (x := .int m) (y := .int (4 * (k : Int))) rfl ((aq (x := .int 4) (y := .int (k : Int)) rfl (et h4)).trans (ie (.inl (by omega))))).trans rfl
 have w1 : gl [some (.scr ns), some FL, some SL, some (.str x), some (.int (k : Int)), t5, t6, none, none, none] = some (.ok (.str p)) := by
  unfold gl
  exact (aq (x := SL) (y := .int d1) rfl (bb (ac (x := .scr ns) rfl (ac (sc 3 _ rfl) (ac (x := .int 27) ((bx (ac (x := SL) rfl ai)).trans rfl) ai))) rfl e1)).trans i1
 have w2 : gm [some (.scr ns), some FL, some SL, some (.str x), some (.int (k : Int)), some (.str p), t6, none, none, none] = some (.ok (.str b)) := by
  unfold gm
  exact (aq (x := .str " ") (y := .int d2) rfl (bb (ac (x := .scr ns) rfl (ac (sc 4 _ rfl) (ac (x := .int 3) rfl ai))) rfl e2)).trans i2
 have w3 : gn [some (.scr ns), some FL, some SL, some (.str x), some (.int (k : Int)), some (.str p), some (.str b), none, none, none] = some (.ok (.str (x ++ Str.ofString ";" ++ b ++ p ++ z))) := by
  unfold gn
  exact (aq ((aq ((aq ((aq (x := .str x) (y := .str ";") rfl rfl).trans (bJ hx ij (by omega))) (y := .str b) rfl).trans (bJ (hx.app ij) tb (by omega))) (y := .str p) rfl).trans (bJ ((hx.app ij).app tb) tp (by omega))) ((aq (x := .str " ") (y := .int d3) rfl (bb (ac (x := .scr ns) rfl (ac (sc 5 _ rfl) (ac (x := .int 2) rfl ai))) rfl e3)).trans i3)).trans (bJ (((hx.app ij).app tb).app tp) tz (by omega))
 unfold cu
 rw [az (aJ (ρ' := [some (.scr ns), some FL, some SL, some (.str x), some (.int (k : Int)), some (.str p), t6, none, none, none]) w1 rfl)]
 rw [az (aJ (ρ' := [some (.scr ns), some FL, some SL, some (.str x), some (.int (k : Int)), some (.str p), some (.str b), none, none, none]) w2 rfl)]
 exact aJ w3 rfl
theorem rG {ns : List Int} (hl : ns.length ≤ 63) : ∀ (m k n : Nat) (x : Str) (t4 t6 t5 : Option Dv), n + 27 * m ≤ 700 → Tx n x → ∃ y u5, Tx (n + 27 * m) y ∧ cV 4 [4, 6] cu (rng (k : Int) m) [some (.scr ns), some FL, some SL, some (.str x), t4, t5, t6, none, none, none] = some (.nx [some (.scr ns), some FL, some SL, some (.str y), none, u5, none, none, none, none])
 | 0, k, n, x, t4, t6, t5, _, hx => ⟨x, t5, hx, rfl⟩
 | m + 1, k, n, x, t4, t6, t5, hn, hx => by
  obtain ⟨y, p, b, hy, e⟩ := more hl (k := k) (t5 := t5) (t6 := none) (by omega) hx
  obtain ⟨y', u5, hy', e'⟩ := rG hl m (k + 1) (n + 27) y (some (.int (k : Int))) (some b) (some p) (by omega) hy
  refine ⟨y', u5, hy'.le (by omega), ?_⟩
  show (match cu [some (.scr ns), some FL, some SL, some (.str x), some (.int (k : Int)), t5, none, none, none, none] with | some (.nx ρ') => cV 4 [4, 6] cu (rng ((k : Int) + 1) m) ρ' | o => o) = _
  rw [e]
  rw [show ((k : Int) + 1) = ((k + 1 : Nat) : Int) by omega]
  exact e'
end PT
namespace PT
open PySem PySem.Spec PyProof.Rows L2 FD PySem.Builtin.Str
theorem ok8 {ρ : Ev} {x : Str} (h : ρ[8]? = some (some (.str x))) (hx : Tx 900 x) : eL ρ = some (.nx ρ) := by
 obtain ⟨V, e1, e2, e3⟩ := w6 hx.l hx.v
 unfold eL
 refine cA ?_
 unfold i6
 exact aK ((aq (ci aF (et h) e1) (ci a9 (et h) e2)).trans e3)
theorem ok3 {ρ : Ev} {x : Str} (h : ρ[3]? = some (some (.str x))) (hx : Tx 900 x) : cw ρ = some (.nx ρ) := by
 obtain ⟨V, e1, e2, e3⟩ := w6 hx.l hx.v
 unfold cw
 refine cA ?_
 unfold i7
 exact aK ((aq (ci aF (et h) e1) (ci a9 (et h) e2)).trans e3)
theorem xb {d : Int} (h0 : 0 ≤ d) (h1 : d < 5) : ∃ v, ixD (.lst [.non, .int 5, .tup [.str (Str.ofString "n=5")], .bl true, .lst [.str (Str.ofString "n=5")]]) (.int d) = some (.ok v) ∧ aF [v] = some (.ok sZ) := by
 have : d = 0 ∨ d = 1 ∨ d = 2 ∨ d = 3 ∨ d = 4 := by omega
 rcases this with rfl | rfl | rfl | rfl | rfl
 · exact ⟨.non, by kernel_rfl, by kernel_rfl⟩
 · exact ⟨.int 5, by kernel_rfl, by kernel_rfl⟩
 · exact ⟨.tup [.str (Str.ofString "n=5")], by kernel_rfl, by kernel_rfl⟩
 · exact ⟨.bl true, by kernel_rfl, by kernel_rfl⟩
 · exact ⟨.lst [.str (Str.ofString "n=5")], by kernel_rfl, by kernel_rfl⟩
def n5 : Str := Str.ofString "n=5; "
theorem n5_tx : Tx 5 n5 := pq (by kernel_rfl)
end PT
open PySem PySem.Spec PyProof.Rows L2 FD PySem.Builtin.Str PT
theorem pv (ns : List Int) (hl : ns.length ≤ 63) : mR [.scr ns] = some (.ok (.bl true)) := by
 refine bO ?_
 show mQ [some (.scr ns), none, none, none, none, none, none, none, none, none] = _
 have v0 : iV [some (.scr ns), none, none, none, none, none, none, none, none, none] = some (.ok (.lst ((firsts.take 10).map Dv.str))) := by kernel_rfl
 have v1 : iW [some (.scr ns), some (.lst ((firsts.take 10).map Dv.str)), none, none, none, none, none, none, none, none] = some (.ok FL) := by kernel_rfl
 have v2 : iX [some (.scr ns), some FL, none, none, none, none, none, none, none, none] = some (.ok (.lst ((somes.take 10).map Dv.str))) := by kernel_rfl
 have v3 : iY [some (.scr ns), some FL, some (.lst ((somes.take 10).map Dv.str)), none, none, none, none, none, none, none] = some (.ok (.lst ((somes.take 18).map Dv.str))) := by kernel_rfl
 have v4 : iZ [some (.scr ns), some FL, some (.lst ((somes.take 18).map Dv.str)), none, none, none, none, none, none, none] = some (.ok SL) := by kernel_rfl
 obtain ⟨d5, a1, a2, e5⟩ := bG ns hl 0 24 (by omega)
 have hm0 : 0 ≤ d5 % 15 := Int.emod_nonneg _ (by omega)
 have hm1 : d5 % 15 < 15 := Int.emod_lt_of_pos _ (by omega)
 obtain ⟨x0, hx0, i5⟩ := qu (l := firsts) hm0 hm1
 have v5 : gk [some (.scr ns), some FL, some SL, none, none, none, none, none, none, none] = some (.ok (.str x0)) := by
  unfold gk
  refine (aq (x := FL) (y := .int (d5 % 15)) rfl ((aq (x := .int d5) (y := .int 15) (bb (ac (x := .scr ns) rfl (ac (x := .int 0) rfl (ac (x := .int 24) rfl ai))) rfl e5) rfl).trans (fF (by omega)))).trans i5
 obtain ⟨d6, b1, b2, e6⟩ := bG ns hl 1 2 (by omega)
 have c0 : eK [some (.scr ns), some FL, some SL, some (.str x0), none, none, none, none, none, none] = some (.ok (decide (d6 = 0))) := by
  unfold eK
  refine aK ((aq (x := .int d6) (y := .int 0) (bb (ac (x := .scr ns) rfl (ac (x := .int 1) rfl (ac (x := .int 2) rfl ai))) rfl e6) rfl).trans ?_)
  show some (Rs.ok (Dv.bl (d6 == 0))) = _
  congr 3
 have s6 : ∃ x, Tx 20 x ∧ bL eK (bZ 3 i4) (fun ρ => some (.nx ρ)) [some (.scr ns), some FL, some SL, some (.str x0), none, none, none, none, none, none] = some (.nx [some (.scr ns), some FL, some SL, some (.str x), none, none, none, none, none, none]) := by
  by_cases h : d6 = 0
  · refine ⟨Str.ofString "n=5", pq (by kernel_rfl), ?_⟩
    rw [show decide (d6 = 0) = true by simpa using h] at c0
    rw [wf c0]
    rfl
  · refine ⟨x0, w8 x0 hx0, ?_⟩
    rw [show decide (d6 = 0) = false by simpa using h] at c0
    rw [yT c0]
 obtain ⟨x, hx, s6⟩ := s6
 obtain ⟨d7, f1, f2', e7⟩ := bG ns hl 2 7 (by omega)
 obtain ⟨y, u5, hy, s7⟩ := rG hl d7.toNat 0 20 x none none none (by omega) hx
 have hy2 : Tx 200 y := hy.le (by omega)
 have s7' : ll 4 [4, 6] (fun ρ => bnd ((aa (ay au 3 (aa (ae 0) (aa (fC (.int 2)) (aa (fC (.int 7)) al)))) al) ρ) pL) cu [some (.scr ns), some FL, some SL, some (.str x), none, none, none, none, none, none] = some (.nx [some (.scr ns), some FL, some SL, some (.str y), none, u5, none, none, none, none]) := by
  refine (iG (ds := rng 0 d7.toNat) ?_).trans s7
  show bnd ((aa (ay au 3 (aa (ae 0) (aa (fC (.int 2)) (aa (fC (.int 7)) al)))) al) [some (.scr ns), some FL, some SL, some (.str x), none, none, none, none, none, none]) pL = _
  have e7' : aa (ay au 3 (aa (ae 0) (aa (fC (.int 2)) (aa (fC (.int 7)) al)))) al [some (.scr ns), some FL, some SL, some (.str x), none, none, none, none, none, none] = some (.ok [.int d7]) := ac (bb (ac (x := .scr ns) rfl (ac (x := .int 2) rfl (ac (x := .int 7) rfl ai))) rfl e7) ai
  rw [e7']
  show pL [.int d7] = _
  exact sx (by omega)
 have yl := hy2.l
 obtain ⟨d8, g1, g2, e8⟩ := bG ns hl 50 ((y.length : Int) + 1) (by omega)
 have v10 : dX [some (.scr ns), some FL, some SL, some (.str y), none, u5, none, none, none, none] = some (.ok (.int d8)) := by
  unfold dX
  refine bb (ac (x := .scr ns) rfl (ac (x := .int 50) rfl (ac (x := .int ((y.length : Int) + 1)) ((aq (x := .int (y.length : Int)) (y := .int 1) ((bx (ac (x := .str y) rfl ai)).trans (len_str (by omega))) rfl).trans rfl) ai))) rfl e8
 obtain ⟨ρ8, hρ8⟩ : ∃ ρ : Ev, ρ = [some (.scr ns), some FL, some SL, some (.str y), none, u5, none, some (.int d8), none, none] := ⟨_, rfl⟩
 have p3 : ae 3 ρ8 = some (.ok (.str y)) := by rw [hρ8]; rfl
 have p7 : ae 7 ρ8 = some (.ok (.int d8)) := by rw [hρ8]; rfl
 have ct {lo hi : FnO} {l h : Option Int} (h1 : lo ρ8 = some (.ok l)) (h2 : hi ρ8 = some (.ok h)) : bp (ae 3) lo hi ρ8 = some (.ok (.str (Txt.slice y l h))) := by
  unfold bp
  rw [p3]
  show bnd (lo ρ8) _ = _
  rw [h1]
  show bnd (hi ρ8) _ = _
  rw [h2]
  exact sO hy2 (by omega) l h
 have q0 : aO ρ8 = some (.ok none) := rfl
 have q1 : aL (ae 7) ρ8 = some (.ok (some d8)) := by unfold aL; rw [p7]; rfl
 have q2 : aL (f2 bn (ae 7) (fC (.int 1))) ρ8 = some (.ok (some (d8 + 1))) := by
  unfold aL
  rw [aq (y := .int 1) p7 rfl]
  rfl
 have t1 := hy2.cut none (some d8)
 have t2 := hy2.cut (some d8) none
 have t3 := hy2.cut (some (d8 + 1)) none
 have src : b7 (cU (aa (ae 3) (aa (f2 bn (f2 bn (bp (ae 3) aO (aL (ae 7))) (fC (.str ";"))) (bp (ae 3) (aL (ae 7)) aO)) (aa (f2 bn (bp (ae 3) aO (aL (ae 7))) (bp (ae 3) (aL (f2 bn (ae 7) (fC (.int 1)))) aO)) (aa (f2 bn (f2 bn (bp (ae 3) aO (aL (ae 7))) (fC (.str "="))) (bp (ae 3) (aL (ae 7)) aO)) al))))) ρ8 = some (.ok ([y, Txt.slice y none (some d8) ++ Str.ofString ";" ++ Txt.slice y (some d8) none, Txt.slice y none (some d8) ++ Txt.slice y (some (d8 + 1)) none, Txt.slice y none (some d8) ++ Str.ofString "=" ++ Txt.slice y (some d8) none].map Dv.str)) := by
  unfold b7
  rw [dk (ac p3 (ac ((aq ((aq (ct q0 q1) (y := .str ";") rfl).trans (bJ t1 ij (by omega))) (ct q1 q0)).trans (bJ (t1.app ij) t2 (by omega))) (ac ((aq (ct q0 q1) (ct q2 q0)).trans (bJ t1 t3 (by omega))) (ac ((aq ((aq (ct q0 q1) (y := .str "=") rfl).trans (bJ t1 sQ (by omega))) (ct q1 q0)).trans (bJ (t1.app sQ) t2 (by omega))) ai)))) (by show 4 ≤ 100000; decide)]
  rfl
 have s8 : ll 8 [8] (b7 (cU (aa (ae 3) (aa (f2 bn (f2 bn (bp (ae 3) aO (aL (ae 7))) (fC (.str ";"))) (bp (ae 3) (aL (ae 7)) aO)) (aa (f2 bn (bp (ae 3) aO (aL (ae 7))) (bp (ae 3) (aL (f2 bn (ae 7) (fC (.int 1)))) aO)) (aa (f2 bn (f2 bn (bp (ae 3) aO (aL (ae 7))) (fC (.str "="))) (bp (ae 3) (aL (ae 7)) aO)) al)))))) eL ρ8 = some (.nx ρ8) := by
  refine (iG src).trans ?_
  have : fgt [8] ρ8 = ρ8 := by rw [hρ8]; rfl
  refine eF (ρ := ρ8) ?_ ρ8 this
  · intro d hd
    obtain ⟨z, hz, rfl⟩ := List.mem_map.mp hd
    have tz : Tx 900 z := by
     simp only [List.mem_cons, List.not_mem_nil, or_false] at hz
     rcases hz with rfl | rfl | rfl | rfl
     · exact hy2.le (by omega)
     · exact ((t1.app ij).app t2).le (by omega)
     · exact (t1.app t3).le (by omega)
     · exact ((t1.app sQ).app t2).le (by omega)
    refine ⟨ρ8.set 8 (some (.str z)), ok8 (by rw [hρ8]; rfl) tz, by rw [hρ8]; rfl⟩
 have n5s : (Txt.slice y none (some d8)).length ≤ 200 := t1.l
 have cm := dZ (cs := []) (src := b7 (ae 2)) (elt := f2 bn (fC (.str "n=5; ")) (ae 0)) (ρ := ρ8) Dv.str (fun p => Dv.str (n5 ++ p)) (l := somes) (by rw [hρ8]; rfl) (by decide) fun p hp => (aq (x := .str "n=5; ") (y := .str p) rfl rfl).trans (bJ n5_tx (sP p hp) (by omega))
 have src2 : b7 (f2 bn (ae 1) (b8 [] (b7 (ae 2)) none (f2 bn (fC (.str "n=5; ")) (ae 0)))) ρ8 = some (.ok ((firsts ++ somes.map fun p => n5 ++ p).map Dv.str)) := by
  have z := aq (g := bn) (f := ae 1) (x := FL) (by rw [hρ8]; rfl) cm
  show bnd (f2 bn (ae 1) (b8 [] (b7 (ae 2)) none (f2 bn (fC (.str "n=5; ")) (ae 0))) ρ8) items = _
  rw [z]
  show bnd (some (Rs.ok (Dv.lst (firsts.map Dv.str ++ somes.map fun p => Dv.str (n5 ++ p))))) items = _
  rw [List.map_append, List.map_map]
  rfl
 have s9 : ∃ ρ9, ll 3 [3] (b7 (f2 bn (ae 1) (b8 [] (b7 (ae 2)) none (f2 bn (fC (.str "n=5; ")) (ae 0))))) cw ρ8 = some (.nx ρ9) ∧ ρ9 = [some (.scr ns), some FL, some SL, none, none, u5, none, some (.int d8), none, none] := by
  refine ⟨_, ?_, rfl⟩
  refine (iG src2).trans ?_
  have gen : ∀ (l : List Str) (t : Option Dv), (∀ z ∈ l, Tx 900 z) → cV 3 [3] cw (l.map Dv.str) [some (.scr ns), some FL, some SL, t, none, u5, none, some (.int d8), none, none] = some (.nx [some (.scr ns), some FL, some SL, none, none, u5, none, some (.int d8), none, none]) := by
   intro l
   induction l with
   | nil => intro t _; rfl
   | cons z l ih =>
    intro t h
    show (match cw [some (.scr ns), some FL, some SL, some (.str z), none, u5, none, some (.int d8), none, none] with | some (.nx ρ') => cV 3 [3] cw (l.map Dv.str) ρ' | o => o) = _
    rw [ok3 (x := z) rfl (h z List.mem_cons_self)]
    exact ih _ fun q hq => h q (List.mem_cons_of_mem _ hq)
  rw [hρ8]
  refine gen _ _ fun z hz => ?_
  rcases List.mem_append.mp hz with h | h
  · exact (w8 z h).le (by omega)
  · obtain ⟨p, hp, rfl⟩ := List.mem_map.mp h
    exact (n5_tx.app (sP p hp)).le (by omega)
 obtain ⟨ρ9, s9, hρ9⟩ := s9
 obtain ⟨dB, h1, h2, eB⟩ := bG ns hl 51 5 (by omega)
 obtain ⟨v, iB, tB⟩ := xb h1 h2
 have v11 : dY ρ9 = some (.ok v) := by
  unfold dY
  refine (aq (x := .lst [.non, .int 5, .tup [.str (Str.ofString "n=5")], .bl true, .lst [.str (Str.ofString "n=5")]]) (y := .int dB) (by kernel_rfl) (bb (ac (x := .scr ns) (by rw [hρ9]; rfl) (ac (x := .int 51) rfl (ac (x := .int 5) rfl ai))) rfl eB)).trans iB
 have eR : gp [some (.scr ns), some FL, some SL, none, none, u5, none, some (.int d8), none, some v] = some (.ok (.bl true)) := by
  unfold gp
  refine (aq (y := sZ) (ci aF rfl tB) (dk (ac (x := .str "refused") rfl (ac (x := .int 4) rfl ai)) (by show 2 ≤ 100000; decide))).trans (by kernel_rfl)
 unfold mQ
 rw [az (aJ (ρ' := [some (.scr ns), some (.lst ((firsts.take 10).map Dv.str)), none, none, none, none, none, none, none, none]) v0 rfl)]
 rw [az (aJ (ρ' := [some (.scr ns), some FL, none, none, none, none, none, none, none, none]) v1 rfl)]
 rw [az (aJ (ρ' := [some (.scr ns), some FL, some (.lst ((somes.take 10).map Dv.str)), none, none, none, none, none, none, none]) v2 rfl)]
 rw [az (aJ (ρ' := [some (.scr ns), some FL, some (.lst ((somes.take 18).map Dv.str)), none, none, none, none, none, none, none]) v3 rfl)]
 rw [az (aJ (ρ' := [some (.scr ns), some FL, some SL, none, none, none, none, none, none, none]) v4 rfl)]
 rw [az (aJ (ρ' := [some (.scr ns), some FL, some SL, some (.str x0), none, none, none, none, none, none]) v5 rfl)]
 rw [az s6, az s7', az (aJ (ρ' := ρ8) v10 (by rw [hρ8]; rfl)), az s8, az s9]
 rw [az (aJ (ρ' := [some (.scr ns), some FL, some SL, none, none, u5, none, some (.int d8), none, some v]) v11 (by rw [hρ9]; rfl))]
 exact bw eR
end G
namespace G
open PySem PySem.Spec PyProof.Rows L2 FD
theorem walk {l : PySem.W.OpenLaw} {q : Program} {loose : List Str} {XP : (Str → Option Value) → Heap → Prop} {YP : World → Heap → Prop} {d : DefRec} {K : Params → PySem.W.Frag} (hn : l.most = some 63) (hdf : d.params.defaults = [])
 (hY : ∀ (w : World) (h : Heap), YP w h → (K w.params).In h)
 (F : ∀ (w : World) (mg : Str → Option Value) (fa : Addr) (h : Heap), (K w.params).In h → h.Ns mainGlobals mg → mg d.name = some (.ref fa) →
   ∃ fd : FuncData, (∀ (s : Shared) (u : Value), BindsTo s fd ⟨[u], []⟩ [("_law_script", u)]) ∧ ∀ base : Heap, (K w.params).In base → base.Ns mainGlobals mg → FnOk l.prog w (K w.params) mg base CX0 7 fa fd ["_law_script"] (spF (K w.params) mR 1)) :
 PySem.W.WalkO q loose XP YP l.row.toRowW d [] (fun f vs => PySem.call f vs) :=
 L2.walk_of (n := 63) (k := 7) (x := "_law_script") (CX := fun _ => CX0) (sp := fun w => spF (K w.params) mR 1) hn (by decide) hdf ⟨rfl, by decide, by decide, rfl⟩ hY F
  (fun _ _ a ns hl _ hS => ⟨[.scr ns], ⟨.ref a, [], rfl, ⟨a, rfl, hS⟩, rfl⟩, rfl, by rw [pv ns hl]; exact fun v H' _ r => r⟩) fun _ _ _ _ _ z => z
end G
open PySem PySem.W PyProof.Rows
set_option maxRecDepth 100000 in
theorem PySem.Challenge.cw_notejar_k31_read_given_holds : PySem.Challenge.rw_notejar_k31_read_given.Holds := by
 refine G.hld fun said => ?_
 refine PySem.W.holds_open (q := G.VQ) (loose := G.VL) (Xt := fun s => recOk [] s) (XP := fun _ _ => True) (Yf := Hook.obs (kHook G.KK G.KA G.KA_ok)) (Ya := Hook.val (kHook G.KK G.KA G.KA_ok)) (YP := Hook.says (kHook G.KK G.KA G.KA_ok)) (N := 5158) G.left (Hook.of (kHook G.KK G.KA G.KA_ok)) (Hook.keeps (kHook G.KK G.KA G.KA_ok)) (fun _ _ => trivial) (fun _ _ _ _ _ => trivial) (by rfl) (by rfl) (by rfl) (fun s e => recFacts_of e) (by rfl) (by first | assumption | decide +kernel) (by decide +kernel) G.hbr ?hw ?hc
 (case hw => w_witness2)
 refine G.walk (l := PySem.Challenge.rw_notejar_k31_read_given) rfl rfl (fun w h Y => PySem.W.kIn_of Y) ?F
 case F =>
  intro w mg fa h KX hG hmg
  exact G.all_mk (C0 := 37) (C1 := 49) (C2 := 61) (C3 := 73) (C4 := 85) (C5 := 97) (C6 := 109) (CJ := 24) KX hG hmg (G.af 180 "law_notejar_k31_read_given" 430 179) (G.af 187 "law_notejar_k31_read_given" 430 186) (G.af 232 "law_notejar_k31_read_given" 430 231) (G.af 116 "notejar.kinds" 319 115) (G.af 123 "notejar.names" 327 122) (G.af 128 "notejar.names" 327 127) (G.af 135 "notejar.paths" 350 134) (G.af 239 "law_notejar_k31_read_given" 430 238) (G.af 244 "law_notejar_k31_read_given" 430 243) (G.af 220 "law_notejar_k31_read_given" 430 219) (G.af 142 "notejar.giving" 363 141) (G.af 147 "notejar.giving" 363 146) (G.af 154 "notejar.giving" 363 153) (G.af 161 "notejar.giving" 363 160) (G.af 168 "notejar.giving" 363 167) (G.af 173 "notejar.giving" 363 172) (G.af 227 "law_notejar_k31_read_given" 430 226) (G.af 249 "law_notejar_k31_read_given" 430 248) (by kernel_rfl) (by kernel_rfl)
#print axioms PySem.Challenge.cw_notejar_k31_read_given_holds
