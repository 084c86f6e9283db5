import PyProof.Rows.All
import Wide.All
import OpenK.AllK
import Wide.FinOn
import Lean
import PyProof.EqAt
import PyProof.EqKinds
import PyProof.TupleCall
import PySem.Challenge.RW_notejar_k01_names
set_option Elab.async false
set_option linter.all false
set_option maxRecDepth 100000
/-! THE HAND LAYER, for ints, bools, texts, own classes, LISTS and tuples (index, slices, in, append, pop ..), calls, loops. Paste it whole ahead of your own text; what your proof does not reach may be deleted. -/
namespace L2
open PySem PySem.Spec PyProof.Rows

/-- a key: an int or a str -/
abbrev Key := Sum Int Str
def keyIs : Key → Value → Bool
  | .inl k, v => Value.isInt k v
  | .inr x, v => Value.isStrOf x v
def keyH (w : World) : Key → Int
  | .inl k => hashInt k
  | .inr x => hashStr w x
theorem keyIs_shape : ∀ {k : Key} {v : Value}, keyIs k v = true → (∃ i t, k = Sum.inl i ∧ v = Value.int i t) ∨ (∃ x t, k = Sum.inr x ∧ v = Value.str x t)
  | .inl i, v, h => by
    obtain ⟨t, e⟩ := Value.isInt_shape (k := i) (v := v) h
    exact .inl ⟨i, t, rfl, e⟩
  | .inr x, v, h => by
    obtain ⟨t, e⟩ := Value.isStrOf_shape (x := x) (v := v) h
    exact .inr ⟨x, t, rfl, e⟩
theorem keyIs_int (i : Int) (t : Tok) : keyIs (.inl i) (.int i t) = true := by simp [keyIs, Value.isInt]
theorem keyIs_str (x : Str) (t : Tok) : keyIs (.inr x) (.str x t) = true := by simp [keyIs, Value.isStrOf]
theorem key_ll (a b : Int) : decide ((Sum.inl a : Key) = Sum.inl b) = (a == b) := by
  by_cases e : a = b
  · subst e; simp
  · have h : ¬ (Sum.inl a : Key) = Sum.inl b := fun q => e (Sum.inl.inj q)
    rw [decide_eq_false h]
    exact (beq_eq_false_iff_ne.mpr e).symm
theorem key_rr (a b : Str) : decide ((Sum.inr a : Key) = Sum.inr b) = decide (a = b) := by
  by_cases e : a = b
  · subst e; simp
  · have h : ¬ (Sum.inr a : Key) = Sum.inr b := fun q => e (Sum.inr.inj q)
    rw [decide_eq_false h, decide_eq_false e]
theorem key_lr (a : Int) (b : Str) : decide ((Sum.inl a : Key) = Sum.inr b) = false := decide_eq_false (fun q => nomatch q)
theorem key_rl (a : Str) (b : Int) : decide ((Sum.inr a : Key) = Sum.inl b) = false := decide_eq_false (fun q => nomatch q)

def mixKind (prog : Program) (w : World) : PySem.KeyKind prog w Key where
  is := keyIs
  hash := keyH w
  inj := fun v a b ha hb => by
    rcases keyIs_shape ha with ⟨i, t, rfl, rfl⟩ | ⟨x, t, rfl, rfl⟩
    · rcases keyIs_shape hb with ⟨j, u, rfl, e⟩ | ⟨y, u, rfl, e⟩
      · injection e with e1 _; rw [e1]
      · exact nomatch e
    · rcases keyIs_shape hb with ⟨j, u, rfl, e⟩ | ⟨y, u, rfl, e⟩
      · exact nomatch e
      · injection e with e1 _; rw [e1]
  byValue := fun k v h => by
    rcases keyIs_shape h with ⟨i, t, rfl, rfl⟩ | ⟨x, t, rfl, rfl⟩ <;> rfl
  pyHash := fun hv h => by
    rcases keyIs_shape hv with ⟨i, t, rfl, rfl⟩ | ⟨x, t, rfl, rfl⟩
    · exact wpAny_pyHash_int h
    · exact wpAny_pyHash_str h
  eqBool := fun hu hv h => by
    rcases keyIs_shape hu with ⟨i, t, rfl, rfl⟩ | ⟨x, t, rfl, rfl⟩
    · rcases keyIs_shape hv with ⟨j, u, rfl, rfl⟩ | ⟨y, u, rfl, rfl⟩
      · rw [key_ll] at h; exact wpAny_eqBool_int h
      · rw [key_lr] at h; exact SeqAt.EqAt.int_str i t y u _ _ _ _ h
    · rcases keyIs_shape hv with ⟨j, u, rfl, rfl⟩ | ⟨y, u, rfl, rfl⟩
      · rw [key_rl] at h; exact SeqAt.EqAt.str_int x t j u _ _ _ _ h
      · rw [key_rr] at h; exact wpAny_eqBool_str h
  «strs» := fun k x t v h => by
    rcases keyIs_shape h with ⟨i, u, rfl, e⟩ | ⟨y, u, rfl, e⟩
    · exact nomatch e
    · injection e with e1 _
      subst e1
      cases v <;> rfl

theorem mixKind_is (prog : Program) (w : World) (k : Key) (v : Value) : (mixKind prog w).is k v = keyIs k v := rfl
theorem mixKind_int (prog : Program) (w : World) (i : Int) (t : Tok) : (mixKind prog w).is (.inl i) (.int i t) = true := keyIs_int i t
theorem mixKind_str (prog : Program) (w : World) (x : Str) (t : Tok) : (mixKind prog w).is (.inr x) (.str x t) = true := keyIs_str x t
end L2

namespace L2
open PySem PySem.Spec PyProof.Rows

/-- a value, without the heap -/
inductive V where
  | non | bl (b : Bool) | int (i : Int) | str (x : Str) | byt (b : Array UInt8) | flt (b : UInt64) | ref (a : Addr) | ty (n : String)
  deriving DecidableEq

def RelV : V → Value → Prop
  | .non, u => u = Value.none
  | .bl b, u => u = Value.bool b
  | .int i, u => ∃ t, u = Value.int i t
  | .str x, u => ∃ t, u = Value.str x t
  | .byt b, u => ∃ t, u = Value.bytes b t
  | .flt b, u => ∃ t, u = Value.float b t
  | .ref a, u => u = Value.ref a
  | .ty n, u => u = Value.type n

abbrev Vals : List V → List Value → Prop := Paired RelV
theorem Vals.length {xs : List V} {us : List Value} (r : Vals xs us) : xs.length = us.length := Paired.length r
theorem Vals.get : ∀ {xs : List V} {us : List Value} {i : Nat} {x : V}, Vals xs us → xs[i]? = some x → ∃ u, us[i]? = some u ∧ RelV x u
  | _, _, _, _, .nil, e => by simp at e
  | _, _, 0, _, .cons r _, e => by simp at e; subst e; exact ⟨_, rfl, r⟩
  | _, _, i + 1, x, .cons _ t, e => by
    obtain ⟨u, h1, h2⟩ := Vals.get (i := i) (x := x) t (by simpa using e)
    exact ⟨u, by simpa using h1, h2⟩
theorem Vals.set {x : V} {u : Value} (r : RelV x u) : ∀ {xs : List V} {us : List Value} (i : Nat), Vals xs us → Vals (xs.set i x) (us.set i u)
  | _, _, _, .nil => .nil
  | _, _, 0, .cons _ t => .cons r t
  | _, _, i + 1, .cons q t => .cons q (Vals.set r i t)
theorem Vals.append : ∀ {xs ys : List V} {us ws : List Value}, Vals xs us → Vals ys ws → Vals (xs ++ ys) (us ++ ws)
  | _, _, _, _, .nil, s => s
  | _, _, _, _, .cons r t, s => .cons r (Vals.append t s)
theorem Vals.take : ∀ {xs : List V} {us : List Value} (n : Nat), Vals xs us → Vals (xs.take n) (us.take n)
  | _, _, 0, _ => .nil
  | _, _, _ + 1, .nil => .nil
  | _, _, n + 1, .cons r t => .cons r (Vals.take n t)
theorem Vals.drop : ∀ {xs : List V} {us : List Value} (n : Nat), Vals xs us → Vals (xs.drop n) (us.drop n)
  | _, _, 0, r => r
  | _, _, _ + 1, .nil => .nil
  | _, _, n + 1, .cons _ t => Vals.drop n t
theorem Vals.none_of : ∀ {xs : List V} {us : List Value} {i : Nat}, Vals xs us → xs[i]? = none → us[i]? = none := fun {xs us i} r e => by
  have h1 := r.length
  have h2 : xs.length ≤ i := List.getElem?_eq_none_iff.mp e
  exact List.getElem?_eq_none_iff.mpr (by omega)

def RelO : Option V → Option Value → Prop
  | some v, some u => RelV v u
  | none, none => True
  | _, _ => False
def KV {κ : Type} : List (κ × V) → List (κ × Value) → Prop := Paired fun (p : κ × V) (q : κ × Value) => p.1 = q.1 ∧ RelV p.2 q.2

/-- a key of a dict (00_mix): an int or a text -/
def kV : Key → V
  | .inl i => .int i
  | .inr x => .str x

/-- what stands at a tracked address -/
inductive HO where
  /-- a list -/
  | lst (xs : List V)
  /-- a tuple (never changes) -/
  | tup (xs : List V)
  /-- a dict whose keys are ints and texts; one whose keys are tuples of ints and texts (the empty one is both) -/
  | dK (kvs : List (Key × V)) | dT (kvs : List (List Key × V))
  /-- a set of ints: its members, its size -/
  | set (S : Int → Bool) (n : Nat)
  /-- an instance of the class at C, its dict at dx, its attributes -/
  | ins (C dx : Addr) (fs : List (Str × V))
  /-- the dict of the instance at x -/
  | own (x : Addr)
  /-- the dict of an exception -/
  | xd (fs : List (Str × V))
  /-- a bound method, f of x -/
  | met (f x : Addr)
  /-- a range object lo, lo + 1, .. below hi -/
  | rng (lo hi : Int)
  /-- a thing that is known to the object (the script; a dict while a loop walks it): read, never written while it is so -/
  | frz (o : Obj) (u : HO)
  /-- a code object's table -/
  | tbl (ps : Array Value)
  /-- any other thing, by what is true of its one object (a def of one's own: SetO a S n := HO.ext fun h => ..) -/
  | ext (φ : Heap → Prop)

abbrev Hp := Addr → Option HO
def upd (H : Hp) (a : Addr) (o : HO) : Hp := fun b => if b = a then some o else H b
theorem upd_same {H : Hp} {a : Addr} {o : HO} : upd H a o a = some o := by unfold upd; rw [if_pos rfl]
theorem upd_ne {H : Hp} {a b : Addr} {o : HO} (h : b ≠ a) : upd H a o b = H b := by unfold upd; rw [if_neg h]
theorem upd_upd {H : Hp} {a : Addr} {o u : HO} : upd (upd H a o) a u = upd H a u := by
  funext b; unfold upd; split <;> rfl
/-- two objects of different content stand apart -/
theorem ne_of {H : Hp} {a b : Addr} {o u : HO} (h : H a = some o) (h' : H b = some u) (d : o ≠ u) : a ≠ b := by
  intro e; subst e; rw [h] at h'; exact d (Option.some.inj h')
theorem ne_of_none {H : Hp} {a b : Addr} {o : HO} (h : H a = some o) (h' : H b = none) : a ≠ b := by
  intro e; subst e; rw [h] at h'; cases h'

section
variable (P : Program) (w : World)
def ObjOk (H : Hp) (h : Heap) (a : Addr) : HO → Prop
  | .lst xs => xs.length ≤ sizeLine ∧ ∃ (its : List Value) (n : Nat), Vals xs its ∧ h.get? a = some { cls := .type "list", data := .seq its.toArray n }
  | .tup xs => xs.length ≤ sizeLine ∧ ∃ its : List Value, Vals xs its ∧ IsTup h a its.toArray
  | .dK kvs => kvs.length ≤ sizeLine ∧ (a == sysModules) = false ∧ ∃ vs, KV kvs vs ∧ h.DictOf (mixKind P w) a vs
  | .dT kvs => kvs.length ≤ sizeLine ∧ (a == sysModules) = false ∧ ∃ xs : List (List Key × Addr × Value),
      Paired (fun (p : List Key × V) (q : List Key × Addr × Value) => p.1 = q.1 ∧ H q.2.1 = some (.tup (p.1.map kV)) ∧ RelV p.2 q.2.2) kvs xs ∧
      ∃ o es ep, h.get? a = some o ∧ o.ExactDict ∧ o.data = .dict es ep ∧ es.toList = xs.map (entryOfKey (tupleKind (mixKind P w))) ∧ (xs.map (·.1)).Nodup
  | .set S n => h.SetOf (intKind P w) a S n
  | .ins C dx fs => H dx = some (.own a) ∧ fs.length ≤ 1000 ∧ dx ≠ a ∧ h.get? a = some (PySem.W.instObj C dx) ∧
      ∃ mA, h.Ns1 dx mA ∧ (∀ f, RelO (fs.lookup f) (mA f)) ∧ PySem.Within mA (fs.map (·.1))
  | .own _ => ∃ o, h.get? a = some o
  | .xd fs => ∃ mA, h.Ns1 a mA ∧ ∀ f, RelO (fs.lookup f) (mA f)
  | .rng lo hi => ∃ t u v, h.get? a = some { cls := .type "range", data := .fields #[.int lo t, .int hi u, .int 1 v] }
  | .frz o u => h.get? a = some o ∧ ObjOk H h a u
  | .tbl ps => h.get? a = some { cls := .none, data := .fields ps }
  | .met f x => h.get? a = some (PySem.W.methodObj (.ref f) (.ref x))
  | .ext φ => φ h ∧ (∃ o, h.get? a = some o) ∧ ∀ h1 h2 : Heap, φ h1 → (∀ o, h1.get? a = some o → h2.get? a = some o) → φ h2
/-- the abstract heap is held -/
def HOk (H : Hp) (h : Heap) : Prop := ∀ a o, H a = some o → ObjOk P w H h a o
end

section
variable {P : Program} {w : World} {H H' : Hp} {h h' : Heap} {a : Addr} {o : HO}
theorem ObjOk.lt (x : ObjOk P w H h a o) : a < h.objs.size := by
  cases o with
  | lst xs => obtain ⟨_, _, _, _, e⟩ := x; exact Heap.lt_size e
  | tup xs => obtain ⟨_, _, _, p⟩ := x; exact p.lt
  | dK kvs => obtain ⟨_, _, _, _, o, _, _, e, _⟩ := x; exact Heap.lt_size e
  | dT kvs => obtain ⟨_, _, _, _, o, _, _, e, _⟩ := x; exact Heap.lt_size e
  | set S n => obtain ⟨o, _, _, _, e, _⟩ := x; exact Heap.lt_size e
  | ins C dx fs => obtain ⟨_, _, _, e, _⟩ := x; exact Heap.lt_size e
  | own y => obtain ⟨_, e⟩ := x; exact Heap.lt_size e
  | xd fs => obtain ⟨_, ⟨_, _, _, e, _⟩, _⟩ := x; exact Heap.lt_size e
  | rng lo hi => obtain ⟨_, _, _, e⟩ := x; exact Heap.lt_size e
  | frz ob u => obtain ⟨e, _⟩ := x; exact Heap.lt_size e
  | tbl ps => exact Heap.lt_size (show h.get? a = some _ from x)
  | met f y => exact Heap.lt_size (show h.get? a = some _ from x)
  | ext φ => obtain ⟨_, ⟨_, e⟩, _⟩ := x; exact Heap.lt_size e
theorem Paired.mapP {α β : Type} {F G : α → β → Prop} : ∀ {l₁ : List α} {l₂ : List β}, Paired F l₁ l₂ → (∀ a b, F a b → G a b) → Paired G l₁ l₂
  | _, _, .nil, _ => .nil
  | _, _, .cons r t, f => .cons (f _ _ r) (Paired.mapP t f)
theorem Paired.imp' {α β : Type} {F G : α → β → Prop} (f : ∀ a b, F a b → G a b) {l₁ : List α} {l₂ : List β} (r : Paired F l₁ l₂) : Paired G l₁ l₂ := Paired.mapP r f
/-- what an object's description leans on: its own object, its own dict, the tuples -/
theorem ObjOk.stay (x : ObjOk P w H h a o) (k : ∀ b u, (b = a ∨ H b = some (.own a)) → h.get? b = some u → h'.get? b = some u)
    (ho : ∀ b, H b = some (.own a) → H' b = some (.own a)) (ht : ∀ b xs, H b = some (.tup xs) → H' b = some (.tup xs)) : ObjOk P w H' h' a o := by
  induction o with
  | lst xs => obtain ⟨z, its, n, r, e⟩ := x; exact ⟨z, its, n, r, k _ _ (.inl rfl) e⟩
  | tup xs => obtain ⟨z, its, r, ob, e, c⟩ := x; exact ⟨z, its, r, ob, k _ _ (.inl rfl) e, c⟩
  | dK kvs => obtain ⟨z, y, vs, r, ob, es, ep, e, c⟩ := x; exact ⟨z, y, vs, r, ob, es, ep, k _ _ (.inl rfl) e, c⟩
  | dT kvs =>
    obtain ⟨z, y, xs, r, ob, es, ep, e, c⟩ := x
    exact ⟨z, y, xs, Paired.mapP r fun p q z => ⟨z.1, ht _ _ z.2.1, z.2.2⟩, ob, es, ep, k _ _ (.inl rfl) e, c⟩
  | set S n => obtain ⟨ob, es, ep, t, e, c⟩ := x; exact ⟨ob, es, ep, t, k _ _ (.inl rfl) e, c⟩
  | ins C dx fs =>
    obtain ⟨d, z, ne, e, mA, ⟨od, es, ep, e2, c⟩, r⟩ := x
    exact ⟨ho _ d, z, ne, k _ _ (.inl rfl) e, mA, ⟨od, es, ep, k _ _ (.inr d) e2, c⟩, r⟩
  | own y => obtain ⟨ob, e⟩ := x; exact ⟨ob, k _ _ (.inl rfl) e⟩
  | xd fs => obtain ⟨mA, ⟨od, es, ep, e, c⟩, r⟩ := x; exact ⟨mA, ⟨od, es, ep, k _ _ (.inl rfl) e, c⟩, r⟩
  | rng lo hi => obtain ⟨t, u, v, e⟩ := x; exact ⟨t, u, v, k _ _ (.inl rfl) e⟩
  | frz ob u ih => obtain ⟨e, q⟩ := x; exact ⟨k _ _ (.inl rfl) e, ih q⟩
  | tbl ps =>
    have e : h.get? a = some { cls := .none, data := .fields ps } := x
    show h'.get? a = some { cls := .none, data := .fields ps }
    exact k a _ (.inl rfl) e
  | met f y =>
    have e : h.get? a = some (PySem.W.methodObj (.ref f) (.ref y)) := x
    show h'.get? a = some (PySem.W.methodObj (.ref f) (.ref y))
    exact k a _ (.inl rfl) e
  | ext φ => obtain ⟨p, ⟨o, e⟩, st⟩ := x; exact ⟨st _ _ p fun o q => k _ _ (.inl rfl) q, ⟨o, k _ _ (.inl rfl) e⟩, st⟩
theorem HOk.lt (x : HOk P w H h) (e : H a = some o) : a < h.objs.size := (x a o e).lt
theorem HOk.fresh (x : HOk P w H h) (e : h.objs.size ≤ a) : H a = none := by
  cases q : H a with
  | none => rfl
  | some u => exact absurd (Nat.lt_of_lt_of_le (x.lt q) e) (Nat.lt_irrefl _)
/-- every object of the heap is kept -/
theorem HOk.kept (x : HOk P w H h) (k : ∀ b u, h.get? b = some u → h'.get? b = some u) : HOk P w H h' := fun a o e =>
  (x a o e).stay (fun b u _ q => k b u q) (fun _ q => q) fun _ _ q => q
/-- a new object is laid and tracked -/
theorem HOk.laid (x : HOk P w H h) (k : ∀ b u, h.get? b = some u → h'.get? b = some u) (hp : h.objs.size ≤ a) (new : ObjOk P w (upd H a o) h' a o) : HOk P w (upd H a o) h' := fun b u e => by
  have hn := x.fresh hp
  by_cases hb : b = a
  · subst hb; rw [upd_same] at e; cases e; exact new
  · rw [upd_ne hb] at e
    exact (x b u e).stay (fun c v _ q => k c v q) (fun c q => by rw [upd_ne (ne_of_none q hn)]; exact q) fun c xs q => by rw [upd_ne (ne_of_none q hn)]; exact q
end

/-- what may be read as u: it is u, or a known u -/
def Rd (H : Hp) (a : Addr) (u : HO) : Prop := H a = some u ∨ ∃ o, H a = some (.frz o u)
theorem Rd.of {H : Hp} {a : Addr} {u : HO} (h : H a = some u) : Rd H a u := .inl h
theorem Rd.ok {P : Program} {w : World} {H : Hp} {h : Heap} {a : Addr} {u : HO} (r : Rd H a u) (x : HOk P w H h) : ObjOk P w H h a u := by
  rcases r with r | ⟨o, r⟩
  · exact x a u r
  · obtain ⟨_, q⟩ := x a _ r
    exact q
/-- what may be written -/
def Mut : Option HO → Prop
  | some (.lst _) => True
  | some (.dK _) => True
  | some (.dT _) => True
  | some (.set _ _) => True
  | some (.ins _ _ _) => True
  | some (.ext _) => True
  | _ => False
section
variable {P : Program} {w : World} {H : Hp} {h h' : Heap} {x e : Addr} {o' : HO}
/-- the object at e is changed: x itself, or the dict of the instance x -/
theorem HOk.write (ok : HOk P w H h) (mu : Mut (H x)) (he : e = x ∨ H e = some (.own x)) (k : ∀ b u, b ≠ e → h.get? b = some u → h'.get? b = some u) (heo : ∃ u, h'.get? e = some u)
    (new : ObjOk P w (upd H x o') h' x o') : HOk P w (upd H x o') h' := fun b u q => by
  have nown : ∀ c y, H c = some (.own y) → c ≠ x := fun c y r z => by subst z; rw [r] at mu; exact mu
  have ntup : ∀ c xs, H c = some (.tup xs) → c ≠ x := fun c xs r z => by subst z; rw [r] at mu; exact mu
  by_cases hb : b = x
  · subst hb; rw [upd_same] at q; cases q; exact new
  · rw [upd_ne hb] at q
    by_cases hbe : b = e
    · have q' : H b = some (.own x) := by
        rcases he with z | z
        · exact absurd (hbe.trans z) hb
        · rw [hbe]; exact z
      rw [q] at q'; cases q'
      obtain ⟨v, hv⟩ := heo
      exact ⟨v, by rw [hbe]; exact hv⟩
    · refine (ok b u q).stay (fun c v hc r => k c v ?_ r) (fun c r => by rw [upd_ne (nown c b r)]; exact r) fun c xs r => by rw [upd_ne (ntup c xs r)]; exact r
      rcases hc with rfl | hc
      · exact hbe
      · rintro rfl
        rcases he with z | z
        · exact nown c b hc z
        · rw [hc] at z; cases z; exact hb rfl
end

/-! ### kept unless tracked; of the frames at fs (the callers') the slots may change (an exception that passes writes there); of the records at ex (iterators) nothing is said -/
structure Un (fs ex : List Addr) (H H' : Hp) (h h' : Heap) : Prop where
  keep : ∀ b o, h.get? b = some o → H b = none → b ∉ fs → b ∉ ex → h'.get? b = some o
  slot : ∀ b o, h.get? b = some o → H b = none → b ∈ fs → b ∉ ex → ∃ sl, h'.get? b = some { o with slots := sl }
  free : ∀ b o, h.get? b = some o → H b = none → b ∉ ex → H' b = none
  there : ∀ b o, h.get? b = some o → b ∉ ex → ∃ o', h'.get? b = some o'
  tups : ∀ b xs, H b = some (.tup xs) → H' b = some (.tup xs)
  frzs : ∀ b o u, H b = some (.frz o u) → H' b = some (.frz o u)
  tbls : ∀ b ps, H b = some (.tbl ps) → ∃ more, H' b = some (.tbl (ps ++ more))
section
variable {fs fs' ex ex' : List Addr} {H H1 H2 : Hp} {h h1 h2 h' : Heap} {a x e : Addr} {o : HO}
theorem Un.any (u : Un fs ex H H1 h h1) {b : Addr} {ob : Obj} (q : h.get? b = some ob) (n : H b = none) (hx : b ∉ ex) : ∃ sl, h1.get? b = some { ob with slots := sl } := by
  by_cases hb : b ∈ fs
  · exact u.slot b ob q n hb hx
  · exact ⟨ob.slots, u.keep b ob q n hb hx⟩
theorem Un.trans (a : Un fs ex H H1 h h1) (b : Un fs ex H1 H2 h1 h2) : Un fs ex H H2 h h2 where
  keep := fun c ob q n hc hx => b.keep c ob (a.keep c ob q n hc hx) (a.free c ob q n hx) hc hx
  slot := fun c ob q n hc hx => by
    obtain ⟨sl, e1⟩ := a.slot c ob q n hc hx
    obtain ⟨sl', e2⟩ := b.slot c _ e1 (a.free c ob q n hx) hc hx
    exact ⟨sl', e2⟩
  free := fun c ob q n hx => by
    obtain ⟨o', e1⟩ := a.there c ob q hx
    exact b.free c o' e1 (a.free c ob q n hx) hx
  there := fun c ob q hx => by
    obtain ⟨o', e1⟩ := a.there c ob q hx
    exact b.there c o' e1 hx
  tups := fun c xs q => b.tups c xs (a.tups c xs q)
  frzs := fun c ob xs q => b.frzs c ob xs (a.frzs c ob xs q)
  tbls := fun c ps q => by
    obtain ⟨m1, e1⟩ := a.tbls c ps q
    obtain ⟨m2, e2⟩ := b.tbls c _ e1
    exact ⟨m1 ++ m2, by rw [e2, Array.append_assoc]⟩
theorem Un.kept (k : ∀ b u, h.get? b = some u → h'.get? b = some u) : Un fs ex H H h h' :=
  ⟨fun b ob q _ _ _ => k b ob q, fun b ob q _ _ _ => ⟨ob.slots, k b ob q⟩, fun _ _ _ n _ => n, fun b ob q _ => ⟨ob, k b ob q⟩, fun _ _ q => q, fun _ _ _ q => q, fun _ ps q => ⟨#[], by rw [q]; simp⟩⟩
theorem Un.refl : Un fs ex H H h h := Un.kept fun _ _ q => q
theorem Un.laid (k : ∀ b u, h.get? b = some u → h'.get? b = some u) (hp : h.objs.size ≤ a) (hn : H a = none) : Un fs ex H (upd H a o) h h' where
  keep := fun b u q _ _ _ => k b u q
  slot := fun b u q _ _ _ => ⟨u.slots, k b u q⟩
  free := fun b u q n _ => by rw [upd_ne (Nat.ne_of_lt (Nat.lt_of_lt_of_le (Heap.lt_size q) hp))]; exact n
  there := fun b u q _ => ⟨u, k b u q⟩
  tups := fun b xs q => by rw [upd_ne (ne_of_none q hn)]; exact q
  frzs := fun b u xs q => by rw [upd_ne (ne_of_none q hn)]; exact q
  tbls := fun b ps q => ⟨#[], by rw [upd_ne (ne_of_none q hn), q]; simp⟩
theorem Un.write (mu : Mut (H x)) (he : e = x ∨ H e = some (.own x)) (k : ∀ b u, b ≠ e → h.get? b = some u → h'.get? b = some u) (heo : ∃ u, h'.get? e = some u) : Un fs ex H (upd H x o) h h' := by
  have hx : ∀ b, H b = none → b ≠ x := fun b n z => by subst z; rw [n] at mu; exact mu
  have hb : ∀ b, H b = none → b ≠ e := fun b n z => by
    subst z
    rcases he with r | r
    · exact hx b n r
    · rw [n] at r; cases r
  have hm : ∀ b u, H b = some u → ¬ Mut (some u) → b ≠ x := fun b u q nm z => by subst z; rw [q] at mu; exact nm mu
  refine ⟨fun b u q n _ _ => k b u (hb b n) q, fun b u q n _ _ => ⟨u.slots, k b u (hb b n) q⟩, fun b u q n _ => by rw [upd_ne (hx b n)]; exact n, fun b u q _ => ?_,
    fun b xs q => by rw [upd_ne (hm b _ q fun z => z)]; exact q, fun b u xs q => by rw [upd_ne (hm b _ q fun z => z)]; exact q, fun b ps q => ⟨#[], by rw [upd_ne (hm b _ q fun z => z), q]; simp⟩⟩
  by_cases hbe : b = e
  · subst hbe; exact heo
  · exact ⟨u, k b u hbe q⟩
theorem Un.mono (u : Un fs ex H H1 h h1) (hs : ∀ b ∈ fs, b ∈ fs') (hx : ∀ b ∈ ex, b ∈ ex') : Un fs' ex' H H1 h h1 :=
  ⟨fun b ob q n hb he => u.keep b ob q n (fun z => hb (hs b z)) fun z => he (hx b z), fun _ _ q n _ he => u.any q n fun z => he (hx _ z), fun b ob q n he => u.free b ob q n fun z => he (hx b z), fun b ob q he => u.there b ob q fun z => he (hx b z), u.tups, u.frzs, u.tbls⟩
end

/-! ### the heap without what is tracked -/
def trk (h : Heap) (H : Hp) : List Addr := (List.range h.objs.size).filter fun a => (H a).isSome
def hidT (h : Heap) (H : Hp) : Heap := PySem.W.hideAll h (trk h H)
theorem hidT_size (h : Heap) (H : Hp) : (hidT h H).objs.size = h.objs.size := PySem.W.hideAll_size _ _
theorem hidT_get {h : Heap} {H : Hp} {b : Addr} {o : Obj} (e : h.get? b = some o) (n : H b = none) : (hidT h H).get? b = some o :=
  PySem.W.hideAll_get _ e fun hm => by
    have q : (H b).isSome = true := (List.mem_filter.mp hm).2
    rw [n] at q; simp at q
theorem of_hidT {h : Heap} {H : Hp} {b : Addr} {o : Obj} (e : (hidT h H).get? b = some o) : h.get? b = some o ∧ H b = none := by
  have e' : h.get? b = some o := PySem.W.of_hideAll (trk h H) e
  refine ⟨e', ?_⟩
  cases q : H b with
  | none => rfl
  | some x =>
    have hm : b ∈ trk h H := List.mem_filter.mpr ⟨List.mem_range.mpr (Heap.lt_size e'), by simp [q]⟩
    have z : (hidT h H).get? b = none := PySem.W.hideAll_none (trk h H) hm
    rw [z] at e; cases e

/-! ### OpenK's ledger, filled with every new object but one -/
def allNews (g h : Heap) (L : Addr) : List (Addr × Obj) := (List.range h.objs.size).filterMap fun a => if a = L ∨ (g.get? a).isSome = true then none else (h.get? a).map fun o => (a, o)
theorem mem_allNews {g h : Heap} {L a : Addr} {o : Obj} (h1 : a ≠ L) (h2 : g.get? a = none) (h3 : h.get? a = some o) : (a, o) ∈ allNews g h L :=
  List.mem_filterMap.mpr ⟨a, List.mem_range.mpr (Heap.lt_size h3), by simp [h1, h2, h3]⟩
theorem of_mem_allNews {g h : Heap} {L : Addr} {p : Addr × Obj} (hp : p ∈ allNews g h L) : p.1 ≠ L ∧ g.get? p.1 = none ∧ h.get? p.1 = some p.2 := by
  obtain ⟨b, _, e⟩ := List.mem_filterMap.mp hp
  split at e
  · cases e
  · rename_i hn
    cases q : h.get? b with
    | none => rw [q] at e; simp at e
    | some u =>
      rw [q] at e
      simp only [Option.map_some, Option.some.injEq] at e
      subst e
      refine ⟨fun z => hn (.inl z), ?_, q⟩
      show g.get? b = none
      cases r : g.get? b with
      | none => rfl
      | some v => exact (hn (.inr (by simp [r]))).elim
def rest (g h : Heap) (L d : Addr) : List (Addr × Obj) := (allNews g h L).filter fun p => decide (p.1 ≠ d)
theorem rest_ne {g h : Heap} {L d : Addr} : ∀ p ∈ rest g h L d, p.1 ≠ d := fun p hp => of_decide_eq_true (List.mem_filter.mp hp).2
theorem mem_rest {g h : Heap} {L d a : Addr} {o : Obj} (h1 : a ≠ L) (h2 : g.get? a = none) (h3 : h.get? a = some o) (h4 : a ≠ d) : (a, o) ∈ rest g h L d :=
  List.mem_filter.mpr ⟨mem_allNews h1 h2 h3, decide_eq_true h4⟩
theorem news_all {g h : Heap} {L : Addr} : News g L h (allNews g h L) := fun p hp => let ⟨a, b, c⟩ := of_mem_allNews hp; ⟨c, a, b⟩
theorem news_at {g h : Heap} {L d : Addr} {o : Obj} (h1 : d ≠ L) (h2 : g.get? d = none) (h3 : h.get? d = some o) : News g L h ((d, o) :: rest g h L d) := fun p hp => by
  rcases List.mem_cons.mp hp with rfl | hp
  · exact ⟨h3, h1, h2⟩
  · exact news_all p (List.mem_filter.mp hp).1
/-- behind a rule that changed d alone: all else but the frame is kept -/
theorem kept_of_news {g h h' : Heap} {L d : Addr} {m : Str → Option Value} (k : ∀ b o, g.get? b = some o → h.get? b = some o) (F : Fr g L h' m) (N : News g L h' (rest g h L d)) :
    ∀ b o, b ≠ L → b ≠ d → h.get? b = some o → h'.get? b = some o := fun b o h1 h2 e => by
  cases q : g.get? b with
  | some u =>
    have := k b u q
    rw [e] at this; cases this
    exact F.keep b _ q
  | none => exact (N (b, o) (mem_rest h1 q e h2)).1
end L2

namespace L2
open PySem PySem.Spec PyProof.Rows

/-- the module's facts, over the base: the heap at the law's entry without what is tracked there -/
structure Mod (K : PySem.W.Frag) (mg : Str → Option Value) (base : Heap) : Prop where
  kin : K.In base
  glob : base.Ns mainGlobals mg
  blt : ∃ mb, base.Ns builtinsNs mb ∧ ∀ x : Str, x ≠ "__name__" → mb x = bootBuiltins x
  nolimit : base.NoLimit

/-- the context: a def's body (or a comprehension's block) running. base: fixed through the whole law; s₀, H₀: the entry; outer: the frames whose slots others may change (a def's callers); stack: all frames that run;
   ex: iterators that were made ahead of the entry and are walked here (a comprehension's); fn: the names whose cells were made at the entry (a def: all; a comprehension's block: its own); calm: not within an except suite; pn: pins that every state bears; xe: what is wanted of an exception that leaves the code -/
structure Cx where
  prog : Program
  w : World
  K : PySem.W.Frag
  mg : Str → Option Value
  base : Heap
  A : Around
  N : List Str
  s₀ : Shared
  H₀ : Hp
  env : Env
  outer : List Env
  stack : List Env
  ex : List Addr
  fn : Str → Bool
  calm : Bool
  pn : List (Addr × Obj)
  xe : Value → Shared → Prop
/-- the callers' frames -/
def frs (l : List Env) : List Addr := l.filterMap (·.frame)
abbrev Cx.fs (X : Cx) : List Addr := frs X.outer

def Vis (sc : Scope) (x : Str) : Prop := sc.names.lookup x = some .local ∨ sc.names.lookup x = some .cell ∨ sc.names.lookup x = some .free
def Loc (sc : Scope) (x : Str) : Prop := sc.names.lookup x = some .local ∨ sc.names.lookup x = some .cell
def Look (env : Env) (h : Heap) (m : Str → Option Value) (x : Str) (u : Value) : Prop :=
  (env.kindOf x = some .local ∧ m x = some u) ∨ ((env.kindOf x = some .cell ∨ env.kindOf x = some .free) ∧ ∃ c, env.cells.lookup x = some c ∧ h.IsCell c (some u))

structure Cx.Ok (X : Cx) : Prop where
  mod : Mod X.K X.mg X.base
  kind : X.env.scope.kind = .function
  glob : X.env.globals = mainGlobals
  blt : X.env.builtins = builtinsNs
  above : X.s₀.heap.objs.size ≤ X.env.locals
  inj : ∀ x y c, X.env.cells.lookup x = some c → X.env.cells.lookup y = some c → x = y
  has : ∀ x, (X.env.kindOf x = some .cell ∨ X.env.kindOf x = some .free) → ∃ c, X.env.cells.lookup x = some c
  cab : ∀ x c, X.fn x = true → X.env.cells.lookup x = some c → X.s₀.heap.objs.size ≤ c
  hd : X.calm = true → X.A.handled = none
  frames : X.A.frames = some X.stack
  stk : X.stack = X.outer ∨ (X.stack = X.env :: X.outer ∧ X.env.frame = some X.env.locals)
  exf : ∀ b ∈ X.ex, b ≠ X.env.locals ∧ ∀ x c, X.env.cells.lookup x = some c → c ≠ b
  bs : ∀ b o, X.base.get? b = some o → X.s₀.heap.get? b = some o ∧ X.H₀ b = none
  bsz : X.base.objs.size ≤ X.s₀.heap.objs.size
  noex : ∀ b o, X.base.get? b = some o → b ∉ X.ex
  exfs : ∀ b ∈ X.ex, b ∉ X.fs
  funs : X.s₀.heap.FunFrames X.base X.outer
  frf : ∀ b ∈ X.fs, X.H₀ b = none

structure Inv (X : Cx) (pins : List (Addr × Obj)) (σ : List (Option V)) (H : Hp) (s : Shared) : Prop where
  ok : X.Ok
  os : s.os = X.s₀.os
  bare : AllBare s.gens
  base : Un X.fs X.ex X.H₀ H X.s₀.heap s.heap
  loc : ∃ m, s.heap.Ns X.env.locals m ∧ ∀ (i : Nat) (x : Str) (v : V), X.N[i]? = some x → σ[i]? = some (some v) → Vis X.env.scope x → ∃ u, RelV v u ∧ Look X.env s.heap m x u
  cell : ∀ x c, X.env.cells.lookup x = some c → ∃ v, s.heap.IsCell c v
  free : H X.env.locals = none
  freeC : ∀ x c, X.env.cells.lookup x = some c → H c = none
  pin : ∀ p ∈ X.pn ++ pins, s.heap.get? p.1 = some p.2 ∧ H p.1 = none ∧ p.1 ≠ X.env.locals ∧ p.1 ∉ X.fs ∧ ∀ v, p.2.data ≠ .cell v
  hok : HOk X.prog X.w H s.heap
  len : σ.length = X.N.length

section
variable {X : Cx} {pins : List (Addr × Obj)} {σ : List (Option V)} {H H' : Hp} {s : Shared} {h' : Heap}

theorem Cx.Ok.nofr (ok : X.Ok) {b : Addr} {o : Obj} (e : X.base.get? b = some o) : b ∉ X.fs := fun hb => by
  have := (ok.funs.mem hb).1
  rw [e] at this; cases this
theorem Inv.bs (I : Inv X pins σ H s) : ∀ b o, X.base.get? b = some o → s.heap.get? b = some o ∧ H b = none := fun b o e =>
  ⟨I.base.keep b o (I.ok.bs b o e).1 (I.ok.bs b o e).2 (I.ok.nofr e) (I.ok.noex b o e), I.base.free b o (I.ok.bs b o e).1 (I.ok.bs b o e).2 (I.ok.noex b o e)⟩
theorem Inv.bk (I : Inv X pins σ H s) : ∀ b o, X.base.get? b = some o → s.heap.get? b = some o := fun b o e => (I.bs b o e).1
theorem Inv.mod (I : Inv X pins σ H s) : Mod X.K X.mg X.base := I.ok.mod
theorem Inv.kIn (I : Inv X pins σ H s) : X.K.In s.heap := I.ok.mod.kin.keeps I.bk
theorem Inv.nolimit (I : Inv X pins σ H s) : s.heap.NoLimit := I.ok.mod.nolimit.keeps I.bk
/-- the frame over the base: for OpenK's rules (K.In X.base is I.mod.kin) -/
theorem Inv.fr (I : Inv X pins σ H s) : ∃ m, Fr X.base X.env.locals s.heap m :=
  let ⟨m, hn, _⟩ := I.loc
  ⟨m, hn, I.bk, Nat.le_trans I.ok.bsz I.ok.above⟩
theorem Inv.lt (I : Inv X pins σ H s) : X.env.locals < s.heap.objs.size := let ⟨_, hn, _⟩ := I.loc; hn.lt
theorem Inv.sz (I : Inv X pins σ H s) : X.s₀.heap.objs.size ≤ s.heap.objs.size := Nat.le_trans I.ok.above (Nat.le_of_lt I.lt)
theorem Inv.nofs (I : Inv X pins σ H s) {a : Addr} (h : s.heap.objs.size ≤ a) : a ∉ X.fs := fun hb => by
  obtain ⟨_, o, ho, _⟩ := I.ok.funs.mem hb
  exact absurd (Nat.lt_of_lt_of_le (Heap.lt_size ho) (Nat.le_trans I.sz h)) (Nat.lt_irrefl _)
theorem Inv.cne (I : Inv X pins σ H s) : ∀ x c, X.env.cells.lookup x = some c → c ≠ X.env.locals := fun x c e z => by
  obtain ⟨v, o, ho, hd⟩ := I.cell x c e
  obtain ⟨m, ⟨o', es, ep, ho', hd', _⟩, _⟩ := I.loc
  rw [z, ho'] at ho; cases ho; rw [hd'] at hd; cases hd
theorem Inv.funs (I : Inv X pins σ H s) : s.heap.FunFrames X.base X.outer := by
  have all : ∀ (l : List Env), (∀ b ∈ frs l, b ∈ X.fs) → X.s₀.heap.FunFrames X.base l → s.heap.FunFrames X.base l := by
    intro l
    induction l with
    | nil => intro _ _; trivial
    | cons env r ih =>
      intro hs hl
      obtain ⟨hk, ⟨L, o, hf, hn, ho, hd⟩, hr⟩ := hl
      have hL : L ∈ X.fs := hs L (by unfold frs; rw [List.filterMap_cons, hf]; exact List.mem_cons_self)
      obtain ⟨sl, e⟩ := I.base.slot L o ho (I.ok.frf L hL) hL fun z => I.ok.exfs L z hL
      exact ⟨hk, ⟨L, _, hf, hn, e, hd⟩, ih (fun b hb => hs b (by unfold frs; rw [List.filterMap_cons, hf]; exact List.mem_cons_of_mem _ hb)) hr⟩
  exact all X.outer (fun _ hb => hb) I.ok.funs

/-- the frames that run, for a call -/
theorem Inv.stack (I : Inv X pins σ H s) : s.heap.FunFrames X.base X.stack := by
  rcases I.ok.stk with e | ⟨e, hf⟩
  · rw [e]; exact I.funs
  · rw [e]
    obtain ⟨m, hn, _⟩ := I.loc
    refine .cons (by rw [I.ok.kind]; decide) hf hn ?_ I.funs
    exact Heap.get?_none_of_le (Nat.le_trans I.ok.bsz I.ok.above)
theorem Inv.stkSub (I : Inv X pins σ H s) : ∀ b ∈ frs X.stack, b ∈ X.env.locals :: X.fs := fun b hb => by
  rcases I.ok.stk with e | ⟨e, hf⟩
  · rw [e] at hb; exact List.mem_cons_of_mem _ hb
  · rw [e] at hb
    unfold frs at hb
    rw [List.filterMap_cons, hf] at hb
    exact hb
theorem Inv.stkFree (I : Inv X pins σ H s) : ∀ b ∈ frs X.stack, H b = none := fun b hb => by
  rcases List.mem_cons.mp (I.stkSub b hb) with e | hb
  · rw [e]; exact I.free
  · obtain ⟨_, o, ho, _⟩ := I.ok.funs.mem hb
    exact I.base.free b o ho (I.ok.frf b hb) fun z => I.ok.exfs b z hb

/-- THE STEP: the untracked objects but the frame and the records at ch are kept (the callers' frames up to slots), the frame's map is kept, the new abstract heap is held -/
theorem Inv.step {g' : Array GenState} {t' : Nat} {d' : Drawn} {ch : List Addr} (I : Inv X pins σ H s)
    (hch : ∀ b ∈ ch, (b ∈ X.ex ∨ X.s₀.heap.objs.size ≤ b) ∧ b ≠ X.env.locals ∧ (∀ x c, X.env.cells.lookup x = some c → c ≠ b) ∧ ∀ p ∈ X.pn ++ pins, p.1 ≠ b)
    (keep : ∀ b o, b ≠ X.env.locals → b ∉ X.fs → b ∉ ch → s.heap.get? b = some o → H b = none → h'.get? b = some o)
    (slot : ∀ b o, b ≠ X.env.locals → b ∈ X.fs → b ∉ ch → s.heap.get? b = some o → H b = none → ∃ sl, h'.get? b = some { o with slots := sl }) (free : ∀ b o, b ∉ ch → s.heap.get? b = some o → H b = none → H' b = none)
    (there : ∀ b o, b ∉ ch → s.heap.get? b = some o → ∃ o', h'.get? b = some o')
    (tups : ∀ b xs, H b = some (.tup xs) → H' b = some (.tup xs)) (frzs : ∀ b o u, H b = some (.frz o u) → H' b = some (.frz o u)) (tbls : ∀ b ps, H b = some (.tbl ps) → ∃ more, H' b = some (.tbl (ps ++ more)))
    (ns : ∀ m, s.heap.Ns X.env.locals m → h'.Ns X.env.locals m) (hok : HOk X.prog X.w H' h') (hg : AllBare g') :
    Inv X pins σ H' { s with heap := h', gens := g', drawn := d', toks := t' } := by
  have neL : ∀ b o, X.s₀.heap.get? b = some o → b ≠ X.env.locals := fun b o e => Nat.ne_of_lt (Nat.lt_of_lt_of_le (Heap.lt_size e) I.ok.above)
  have neC : ∀ b o, X.s₀.heap.get? b = some o → b ∉ X.ex → b ∉ ch := fun b o e hx hb => by
    rcases (hch b hb).1 with z | z
    · exact hx z
    · exact absurd (Nat.lt_of_lt_of_le (Heap.lt_size e) z) (Nat.lt_irrefl _)
  have cellK : ∀ x c, X.env.cells.lookup x = some c → ∀ v, s.heap.IsCell c v → h'.IsCell c v := fun x c e v ⟨o, ho, hd⟩ => by
    have nch : c ∉ ch := fun z => (hch c z).2.2.1 x c e rfl
    by_cases hc : c ∈ X.fs
    · obtain ⟨sl, q⟩ := slot c o (I.cne x c e) hc nch ho (I.freeC x c e)
      exact ⟨_, q, hd⟩
    · exact ⟨o, keep c o (I.cne x c e) hc nch ho (I.freeC x c e), hd⟩
  refine ⟨I.ok, I.os, hg, ⟨fun b o e n hb hx => ?_, fun b o e n hb hx => ?_, fun b o e n hx => ?_, fun b o e hx => ?_, fun b xs e => tups b xs (I.base.tups b xs e), fun b o xs e => frzs b o xs (I.base.frzs b o xs e), fun b ps e => ?_⟩, ?_, fun x c e => ?_, ?_, fun x c e => ?_, fun p hp => ?_, hok, I.len⟩
  · exact keep b o (neL b o e) hb (neC b o e hx) (I.base.keep b o e n hb hx) (I.base.free b o e n hx)
  · obtain ⟨sl, e1⟩ := I.base.slot b o e n hb hx
    obtain ⟨sl', e2⟩ := slot b _ (neL b o e) hb (neC b o e hx) e1 (I.base.free b o e n hx)
    exact ⟨sl', e2⟩
  · obtain ⟨o', e1⟩ := I.base.there b o e hx
    exact free b o' (neC b o e hx) e1 (I.base.free b o e n hx)
  · obtain ⟨o', e1⟩ := I.base.there b o e hx
    exact there b o' (neC b o e hx) e1
  · obtain ⟨m1, e1⟩ := I.base.tbls b ps e
    obtain ⟨m2, e2⟩ := tbls b _ e1
    exact ⟨m1 ++ m2, by rw [e2, Array.append_assoc]⟩
  · obtain ⟨m, hn, hl⟩ := I.loc
    refine ⟨m, ns m hn, fun i x v e1 e2 e3 => ?_⟩
    obtain ⟨u, r, l⟩ := hl i x v e1 e2 e3
    refine ⟨u, r, ?_⟩
    rcases l with l | ⟨k, c, e, z⟩
    · exact .inl l
    · exact .inr ⟨k, c, e, cellK x c e _ z⟩
  · obtain ⟨v, z⟩ := I.cell x c e
    exact ⟨v, cellK x c e v z⟩
  · obtain ⟨m, ⟨o, _, _, ho, _⟩, _⟩ := I.loc
    exact free _ o (fun z => (hch _ z).2.1 rfl) ho I.free
  · obtain ⟨v, o, ho, hd⟩ := I.cell x c e
    exact free c o (fun z => (hch c z).2.2.1 x c e rfl) ho (I.freeC x c e)
  · obtain ⟨e, n, ne, nf, d⟩ := I.pin p hp
    have nch : p.1 ∉ ch := fun z => (hch p.1 z).2.2.2 p hp rfl
    exact ⟨keep p.1 p.2 ne nf nch e n, free p.1 p.2 nch e n, ne, nf, d⟩
/-- .. where the frame's own object is kept too -/
theorem Inv.un {t' : Nat} (I : Inv X pins σ H s) (u : Un X.fs [] H H' s.heap h') (hok : HOk X.prog X.w H' h') : Inv X pins σ H' { s with heap := h', toks := t' } := by
  obtain ⟨m, ⟨o, es, ep, ho, r⟩, _⟩ := id I.loc
  obtain ⟨sl, hL⟩ := u.any ho I.free (by simp)
  exact I.step (g' := s.gens) (d' := s.drawn) (ch := []) (fun _ z => nomatch z) (fun b o _ hb _ e n => u.keep b o e n hb (by simp)) (fun b o _ hb _ e n => u.slot b o e n hb (by simp)) (fun b o _ e n => u.free b o e n (by simp)) (fun b o _ e => u.there b o e (by simp)) u.tups u.frzs u.tbls (fun m' hm => by
    obtain ⟨o', es', ep', ho', r'⟩ := hm
    rw [ho] at ho'; cases ho'
    exact ⟨_, es', ep', hL, r'⟩) hok I.bare
/-- behind a call (or a comprehension's block): the slots of this frame may have changed too, the records at ch may have turned -/
theorem Inv.call {g' : Array GenState} {t' : Nat} {d' : Drawn} {ch : List Addr} (I : Inv X pins σ H s) (u : Un (frs X.stack) ch H H' s.heap h') (hok : HOk X.prog X.w H' h') (hg : AllBare g')
    (hch : ∀ b ∈ ch, (b ∈ X.ex ∨ X.s₀.heap.objs.size ≤ b) ∧ b ≠ X.env.locals ∧ (∀ x c, X.env.cells.lookup x = some c → c ≠ b) ∧ ∀ p ∈ X.pn ++ pins, p.1 ≠ b) :
    Inv X pins σ H' { s with heap := h', gens := g', drawn := d', toks := t' } := by
  obtain ⟨m, ⟨o, es, ep, ho, r⟩, _⟩ := id I.loc
  obtain ⟨sl, hL⟩ := u.any ho I.free fun z => (hch _ z).2.1 rfl
  exact I.step (ch := ch) hch (fun b o hL hb hc e n => u.keep b o e n (fun z => (List.mem_cons.mp (I.stkSub b z)).elim hL hb) hc) (fun b o _ _ hc e n => u.any e n hc) (fun b o hc e n => u.free b o e n hc) (fun b o hc e => u.there b o e hc) u.tups u.frzs u.tbls (fun m' hm => by
    obtain ⟨o', es', ep', ho', r'⟩ := hm
    rw [ho] at ho'; cases ho'
    exact ⟨_, es', ep', hL, r'⟩) hok hg
/-- an untracked record of ours (an iterator) has turned -/
theorem Inv.turned {t' : Nat} {it : Addr} (I : Inv X pins σ H s) (k : ∀ b o, b ≠ it → s.heap.get? b = some o → h'.get? b = some o) (hn : H it = none) (hL : it ≠ X.env.locals)
    (h1 : it ∈ X.ex ∨ X.s₀.heap.objs.size ≤ it) (h2 : ∀ x c, X.env.cells.lookup x = some c → c ≠ it) (h3 : ∀ p ∈ X.pn ++ pins, p.1 ≠ it) : Inv X pins σ H { s with heap := h', toks := t' } := by
  have nit : ∀ b u, H b = some u → b ≠ it := fun b u e z => by rw [z, hn] at e; cases e
  refine I.step (g' := s.gens) (d' := s.drawn) (ch := [it]) (fun b hb => ?_) (fun b o _ _ hc e _ => k b o (fun z => hc (by simp [z])) e) (fun b o _ _ hc e _ => ⟨o.slots, k b o (fun z => hc (by simp [z])) e⟩) (fun _ _ _ _ n => n)
    (fun b o hc e => ⟨o, k b o (fun z => hc (by simp [z])) e⟩) (fun _ _ e => e) (fun _ _ _ e => e) (fun b ps e => ⟨#[], by rw [e]; simp⟩) (fun m hm => ?_) (fun b u e => ?_) I.bare
  · have e : b = it := by simpa using hb
    subst e
    exact ⟨h1, hL, h2, h3⟩
  · obtain ⟨o, es, ep, ho, r⟩ := hm
    exact ⟨o, es, ep, k _ o (Ne.symm hL) ho, r⟩
  · refine (I.hok b u e).stay (fun c v hc q => k c v ?_ q) (fun _ q => q) fun _ _ q => q
    rcases hc with z | z
    · rw [z]; exact nit b u e
    · exact nit c _ z
theorem Inv.tok (I : Inv X pins σ H s) (t : Nat) : Inv X pins σ H { s with toks := t } := I.un (h' := s.heap) (t' := t) Un.refl I.hok
/-- all objects kept -/
theorem Inv.kept {t' : Nat} (I : Inv X pins σ H s) (k : ∀ b u, s.heap.get? b = some u → h'.get? b = some u) : Inv X pins σ H { s with heap := h', toks := t' } := I.un (Un.kept k) (I.hok.kept k)
/-- a new object laid and tracked -/
theorem Inv.laid {a : Addr} {o : HO} {t' : Nat} (I : Inv X pins σ H s) (k : ∀ b u, s.heap.get? b = some u → h'.get? b = some u) (hp : s.heap.objs.size ≤ a) (new : ObjOk X.prog X.w (upd H a o) h' a o) :
    Inv X pins σ (upd H a o) { s with heap := h', toks := t' } := I.un (Un.laid k hp (I.hok.fresh hp)) (I.hok.laid k hp new)
/-- an object written -/
theorem Inv.write {x e : Addr} {o : HO} {t' : Nat} (I : Inv X pins σ H s) (mu : Mut (H x)) (he : e = x ∨ H e = some (.own x)) (k : ∀ b u, b ≠ e → s.heap.get? b = some u → h'.get? b = some u) (heo : ∃ u, h'.get? e = some u)
    (new : ObjOk X.prog X.w (upd H x o) h' x o) : Inv X pins σ (upd H x o) { s with heap := h', toks := t' } := I.un (Un.write mu he k heo) (I.hok.write mu he k heo new)
/-- forgetting slots, pins -/
theorem Inv.weak {σ' : List (Option V)} (I : Inv X pins σ H s) (hl : σ'.length = σ.length) (w : ∀ (i : Nat) v, σ'[i]? = some (some v) → σ[i]? = some (some v)) : Inv X pins σ' H s :=
  ⟨I.ok, I.os, I.bare, I.base, let ⟨m, hn, hl'⟩ := I.loc; ⟨m, hn, fun i x v e1 e2 e3 => hl' i x v e1 (w i v e2) e3⟩, I.cell, I.free, I.freeC, I.pin, I.hok, hl.trans I.len⟩
theorem Inv.pins_of {pins' : List (Addr × Obj)} (I : Inv X pins σ H s) (h : ∀ p ∈ pins', s.heap.get? p.1 = some p.2 ∧ H p.1 = none ∧ p.1 ≠ X.env.locals ∧ p.1 ∉ X.fs ∧ ∀ v, p.2.data ≠ .cell v) : Inv X pins' σ H s :=
  ⟨I.ok, I.os, I.bare, I.base, I.loc, I.cell, I.free, I.freeC, fun p hp => (List.mem_append.mp hp).elim (fun z => I.pin p (List.mem_append_left _ z)) (h p), I.hok, I.len⟩

theorem nodup_ix {N : List Str} (hN : N.Nodup) {i j : Nat} {x : Str} (a : N[i]? = some x) (b : N[j]? = some x) : i = j := by
  obtain ⟨h1, e1⟩ := List.getElem?_eq_some_iff.mp a
  obtain ⟨h2, e2⟩ := List.getElem?_eq_some_iff.mp b
  exact (List.getElem_inj hN).mp (e1.trans e2.symm)

/-- a name is stored; what changed -/
theorem store_ok2 {M : Model} {A : Around} {E : Value → Shared → Prop} {i : Nat} {x : Str} {v : V} {u : Value} {Q : Unit → Shared → Prop} (I : Inv X pins σ H s) (hN : X.N.Nodup) (hi : X.N[i]? = some x) (hx : Loc X.env.scope x) (r : RelV v u)
    (h : ∀ s', Inv X pins (σ.set i (some v)) H s' → (∃ a, Heap.SameBut a s.heap s'.heap ∧ (a = X.env.locals ∨ X.env.cells.lookup x = some a)) → Q () s') (hf : X.fn x = true ∨ X.env.scope.names.lookup x = some .local := by first | exact .inl rfl | exact .inr rfl | assumption) : wpAny M A (storeName X.env x u) Q E s := by
  obtain ⟨m, hn, hl⟩ := id I.loc
  have hcls : (X.env.scope.kind == .class || (X.env.scope.kind == .module && X.env.locals != X.env.globals)) = false := by rw [I.ok.kind]; rfl
  have hiσ : i < σ.length := by rw [I.len]; exact (List.getElem?_eq_some_iff.mp hi).1
  have cne := I.cne
  have tracked : ∀ {a : Addr} {h' : Heap}, (∃ o, s.heap.get? a = some o ∧ H a = none) → Heap.SameBut a s.heap h' → HOk X.prog X.w H h' := fun {a h'} ha hs b ob e => by
    obtain ⟨_, _, hfree⟩ := ha
    refine (I.hok b ob e).stay (fun c w' hc q => (hs.2 c ?_).trans q) (fun _ q => q) fun _ _ q => q
    rintro rfl
    rcases hc with rfl | hc
    · rw [hfree] at e; cases e
    · rw [hfree] at hc; cases hc
  rcases hx with hk | hk
  · refine wpAny_storeName_local hk hn (fun h' hn' hs => ?_) hcls
    obtain ⟨oL, _, _, hoL, _⟩ := id hn
    refine h _ ⟨I.ok, I.os, I.bare, ⟨fun b o e n hb hx => ?_, fun b o e n hb hx => ?_, I.base.free, fun b o e hx => ?_, I.base.tups, I.base.frzs, I.base.tbls⟩, ⟨_, hn', fun j y v' e1 e2 e3 => ?_⟩, fun y c e => ?_, I.free, I.freeC, fun p hp => ?_, tracked ⟨oL, hoL, I.free⟩ hs, by simpa using I.len⟩ ⟨_, hs, .inl rfl⟩
    · exact (hs.2 b (Nat.ne_of_lt (Nat.lt_of_lt_of_le (Heap.lt_size e) I.ok.above))).trans (I.base.keep b o e n hb hx)
    · obtain ⟨sl, e1⟩ := I.base.slot b o e n hb hx
      exact ⟨sl, (hs.2 b (Nat.ne_of_lt (Nat.lt_of_lt_of_le (Heap.lt_size e) I.ok.above))).trans e1⟩
    · obtain ⟨o', e1⟩ := I.base.there b o e hx
      exact ⟨o', (hs.2 b (Nat.ne_of_lt (Nat.lt_of_lt_of_le (Heap.lt_size e) I.ok.above))).trans e1⟩
    · by_cases hj : j = i
      · subst hj
        rw [hi] at e1; cases e1
        rw [List.getElem?_set_self hiσ] at e2
        cases e2
        exact ⟨u, r, .inl ⟨hk, by simp⟩⟩
      · rw [List.getElem?_set_ne (Ne.symm hj)] at e2
        obtain ⟨u', r', q⟩ := hl j y v' e1 e2 e3
        refine ⟨u', r', ?_⟩
        rcases q with ⟨k, e⟩ | ⟨k, c, e, z⟩
        · refine .inl ⟨k, ?_⟩
          have : y ≠ x := fun e => hj (nodup_ix hN e1 (e ▸ hi))
          simp [this, e]
        · exact .inr ⟨k, c, e, z.sameBut hs (cne y c e)⟩
    · obtain ⟨w', z⟩ := I.cell y c e
      exact ⟨w', z.sameBut hs (cne y c e)⟩
    · obtain ⟨e, n, ne, nf, d⟩ := I.pin p hp
      exact ⟨(hs.2 p.1 ne).trans e, n, ne, nf, d⟩
  · have hfn : X.fn x = true := by
      rcases hf with z | z
      · exact z
      · rw [z] at hk; cases hk
    obtain ⟨c, hc⟩ := I.ok.has x (.inl hk)
    obtain ⟨w', z⟩ := I.cell x c hc
    refine wpAny_storeName_cell I.ok.kind hk hc z (fun h' hc' hs => ?_)
    obtain ⟨oc, hoc, hocd⟩ := id z
    refine h { s with heap := h' } ⟨I.ok, I.os, I.bare, ⟨fun b o e n hb hx => ?_, fun b o e n hb hx => ?_, I.base.free, fun b o e hx => ?_, I.base.tups, I.base.frzs, I.base.tbls⟩, ⟨m, hn.sameBut hs (Ne.symm (cne x c hc)), fun j y v' e1 e2 e3 => ?_⟩, fun y c' e => ?_, I.free, I.freeC, fun p hp => ?_, tracked ⟨oc, hoc, I.freeC x c hc⟩ hs, by simpa using I.len⟩ ⟨c, hs, .inr hc⟩
    · exact (hs.2 b (Nat.ne_of_lt (Nat.lt_of_lt_of_le (Heap.lt_size e) (I.ok.cab x c hfn hc)))).trans (I.base.keep b o e n hb hx)
    · obtain ⟨sl, e1⟩ := I.base.slot b o e n hb hx
      exact ⟨sl, (hs.2 b (Nat.ne_of_lt (Nat.lt_of_lt_of_le (Heap.lt_size e) (I.ok.cab x c hfn hc)))).trans e1⟩
    · obtain ⟨o', e1⟩ := I.base.there b o e hx
      exact ⟨o', (hs.2 b (Nat.ne_of_lt (Nat.lt_of_lt_of_le (Heap.lt_size e) (I.ok.cab x c hfn hc)))).trans e1⟩
    · by_cases hj : j = i
      · subst hj
        rw [hi] at e1; cases e1
        rw [List.getElem?_set_self hiσ] at e2
        cases e2
        exact ⟨u, r, .inr ⟨.inl hk, c, hc, hc'⟩⟩
      · rw [List.getElem?_set_ne (Ne.symm hj)] at e2
        obtain ⟨u', r', q⟩ := hl j y v' e1 e2 e3
        refine ⟨u', r', ?_⟩
        rcases q with q | ⟨k, c', e, z'⟩
        · exact .inl q
        · refine .inr ⟨k, c', e, z'.sameBut hs ?_⟩
          rintro rfl
          exact hj (nodup_ix hN e1 (I.ok.inj _ _ _ e hc ▸ hi))
    · by_cases hcc : c' = c
      · subst hcc; exact ⟨_, hc'⟩
      · obtain ⟨w2, z2⟩ := I.cell y c' e
        exact ⟨w2, z2.sameBut hs hcc⟩
    · obtain ⟨e, n, ne, nf, d⟩ := I.pin p hp
      refine ⟨(hs.2 p.1 ?_).trans e, n, ne, nf, d⟩
      intro q
      rw [q, hoc] at e
      have q' : oc = p.2 := Option.some.inj e
      exact d w' (by rw [← q']; exact hocd)
theorem store_ok {M : Model} {A : Around} {E : Value → Shared → Prop} {i : Nat} {x : Str} {v : V} {u : Value} {Q : Unit → Shared → Prop} (I : Inv X pins σ H s) (hN : X.N.Nodup) (hi : X.N[i]? = some x) (hx : Loc X.env.scope x) (r : RelV v u)
    (h : ∀ s', Inv X pins (σ.set i (some v)) H s' → Q () s') (hf : X.fn x = true ∨ X.env.scope.names.lookup x = some .local := by first | exact .inl rfl | exact .inr rfl | assumption) : wpAny M A (storeName X.env x u) Q E s :=
  store_ok2 I hN hi hx r (fun s' I' _ => h s' I') hf
/-- behind a call or a block, the state as it is -/
theorem Inv.call' {s' : Shared} {ch : List Addr} (I : Inv X pins σ H s) (ho : s'.os = s.os) (u : Un (frs X.stack) ch H H' s.heap s'.heap) (hok : HOk X.prog X.w H' s'.heap) (hg : AllBare s'.gens)
    (hch : ∀ b ∈ ch, (b ∈ X.ex ∨ X.s₀.heap.objs.size ≤ b) ∧ b ≠ X.env.locals ∧ (∀ x c, X.env.cells.lookup x = some c → c ≠ b) ∧ ∀ p ∈ X.pn ++ pins, p.1 ≠ b) : Inv X pins σ H' s' := by
  obtain ⟨h', g', d', t', o'⟩ := s'
  have e : o' = s.os := ho
  subst e
  exact I.call (g' := g') (t' := t') (d' := d') u hok hg hch
end

/-! ### the judgements -/
/-- an exception: its class, its own dict's address (where it has one), the abstract heap behind it -/
abbrev XK := Value → Option Addr → Hp → Prop
abbrev St := List (Option V)
abbrev VK := V → Hp → Prop
/-- an expression's reading; a test's; an argument list's -/
abbrev TE := St → Hp → VK → Prop
abbrev TT := St → Hp → (Bool → Hp → Prop) → Prop
abbrev TA := St → Hp → (List V → Hp → Prop) → Prop
/-- what is wanted behind a statement -/
structure Ends where
  nx : St → Hp → Prop
  rt : VK
  bk : St → Hp → Prop := fun _ _ => False
  ct : St → Hp → Prop := fun _ _ => False
abbrev TS := Ends → St → Hp → Prop

def EP (X : Cx) (pins : List (Addr × Obj)) (σ : St) (Q : VK) (u : Value) (s' : Shared) : Prop := ∃ v H', Inv X pins σ H' s' ∧ RelV v u ∧ Q v H'
def TP (X : Cx) (pins : List (Addr × Obj)) (σ : St) (Q : Bool → Hp → Prop) (b : Bool) (s' : Shared) : Prop := ∃ H', Inv X pins σ H' s' ∧ Q b H'
def AP (X : Cx) (pins : List (Addr × Obj)) (σ : St) (Q : List V → Hp → Prop) (us : List Value) (s' : Shared) : Prop := ∃ vs H', Inv X pins σ H' s' ∧ Vals vs us ∧ Q vs H'
def SP (X : Cx) (pins : List (Addr × Obj)) (D : Ends) (f : Flow) (s' : Shared) : Prop :=
  match f with
  | .next => ∃ σ' H', Inv X pins σ' H' s' ∧ D.nx σ' H'
  | .brk => ∃ σ' H', Inv X pins σ' H' s' ∧ D.bk σ' H'
  | .cont => ∃ σ' H', Inv X pins σ' H' s' ∧ D.ct σ' H'
  | .ret u => ∃ v σ' H', Inv X pins σ' H' s' ∧ RelV v u ∧ D.rt v H'

def PE (X : Cx) (e : Expr) (t : TE) : Prop :=
  ∀ (pins : List (Addr × Obj)) (s : Shared) (σ : St) (H : Hp) (Q : VK), Inv X pins σ H s → t σ H Q → wpAny (model X.prog X.w) X.A (eval e X.env) (EP X pins σ Q) X.xe s
def PT (X : Cx) (e : Expr) (t : TT) : Prop :=
  ∀ (pins : List (Addr × Obj)) (s : Shared) (σ : St) (H : Hp) (Q : Bool → Hp → Prop), Inv X pins σ H s → t σ H Q → wpAny (model X.prog X.w) X.A (isTrue e X.env (eval e X.env)) (TP X pins σ Q) X.xe s
/-- a test whatever its 'whole' is (and, or) -/
def PW (X : Cx) (e : Expr) (t : TT) : Prop :=
  ∀ (whole : Sem Value) (pins : List (Addr × Obj)) (s : Shared) (σ : St) (H : Hp) (Q : Bool → Hp → Prop), Inv X pins σ H s → t σ H Q → wpAny (model X.prog X.w) X.A (isTrue e X.env whole) (TP X pins σ Q) X.xe s
theorem PW.pt {X : Cx} {e : Expr} {t : TT} (h : PW X e t) : PT X e t := h _
/-- an argument list (no star), from the left -/
def PA (X : Cx) (es : List Expr) (t : TA) : Prop :=
  ∀ (pos : Pos) (pins : List (Addr × Obj)) (s : Shared) (σ : St) (H : Hp) (Q : List V → Hp → Prop), Inv X pins σ H s → t σ H Q → wpAny (model X.prog X.w) X.A (spliced (backTo pos (starEach es X.env))) (AP X pins σ Q) X.xe s
def PS (X : Cx) (st : Stmt) (t : TS) : Prop :=
  ∀ (pins : List (Addr × Obj)) (s : Shared) (σ : St) (H : Hp) (D : Ends), Inv X pins σ H s → t D σ H → wpAny (model X.prog X.w) X.A (exec st X.env) (SP X pins D) X.xe s
def PSs (X : Cx) (st : List Stmt) (t : TS) : Prop :=
  ∀ (pins : List (Addr × Obj)) (s : Shared) (σ : St) (H : Hp) (D : Ends), Inv X pins σ H s → t D σ H → wpAny (model X.prog X.w) X.A (execs st X.env) (SP X pins D) X.xe s
/-- weaken the end -/
theorem thn {α : Type} {t : Sem α} {Q Q' : α → Shared → Prop} {M : Model} {A : Around} {E : Value → Shared → Prop} {s : Shared} (h : wpAny M A t Q E s) (hQ : ∀ a s, Q a s → Q' a s) : wpAny M A t Q' E s := wpAny_mono h hQ fun _ _ x => x
end L2

namespace L2
open PySem PySem.Spec PyProof.Rows
section
variable {X : Cx}

/-- two expressions in a row -/
theorem bin {a b : Expr} {ta tb : TE} (ha : PE X a ta) (hb : PE X b tb) {pins : List (Addr × Obj)} {s : Shared} {σ : St} {H : Hp} {R : V → V → Hp → Prop} (I : Inv X pins σ H s) (h : ta σ H fun x H1 => tb σ H1 fun y H2 => R x y H2)
    {α : Type} {Q : α → Shared → Prop} {f : Value → Value → Sem α}
    (hf : ∀ v u s2 x y H2, Inv X pins σ H2 s2 → RelV x v → RelV y u → R x y H2 → wpAny (model X.prog X.w) X.A (f v u) Q X.xe s2) :
    wpAny (model X.prog X.w) X.A (eval a X.env) (fun v s₁ => wpAny (model X.prog X.w) X.A (eval b X.env) (fun u s₂ => wpAny (model X.prog X.w) X.A (f v u) Q X.xe s₂) X.xe s₁) X.xe s := by
  refine thn (ha pins s σ H _ I h) fun v s1 ⟨x, H1, I1, r1, q1⟩ => ?_
  refine thn (hb pins s1 σ H1 _ I1 q1) fun u s2 ⟨y, H2, I2, r2, q2⟩ => ?_
  exact hf v u s2 x y H2 I2 r1 r2 q2

/-! ### names and constants -/
def tVar (i : Nat) : TE := fun σ H Q => ∃ v, σ[i]? = some (some v) ∧ Q v H
def tC (v : V) : TE := fun _ H Q => Q v H
theorem pe_var {i : Nat} {x : Str} {pos : Pos} (hN : X.N[i]? = some x) (hv : Vis X.env.scope x) (hd : (x == ("__debug__" : Str)) = false := by decide) (hcd : (x == ("__classdict__" : Str)) = false := by decide) : PE X (.Name x pos) (tVar i) := by
  intro pins s σ H Q I h
  obtain ⟨v, e, h⟩ := h
  obtain ⟨m, hn, hl⟩ := I.loc
  obtain ⟨u, r, l⟩ := hl i x v hN e hv
  have fin : EP X pins σ Q u s := ⟨v, H, I, r, h⟩
  rcases l with ⟨hk, hm⟩ | ⟨hk, c, hc, hcell⟩
  · exact wpAny_Name (wpAny_loadName_local I.ok.kind hk hn hm fin) hd
  · rcases hk with hk | hk
    · exact wpAny_Name (wpAny_loadName_cell I.ok.kind hk hc hcell fin) hd
    · exact wpAny_Name (wpAny_loadName_free I.ok.kind hk hc hcell fin hcd) hd
theorem pe_int {i j pos} : PE X (.Constant (.int i) j pos) (tC (.int i)) := fun _ _ _ H _ I h => wpAny_Constant_int ⟨.int i, H, I.tok _, ⟨_, rfl⟩, h⟩
theorem pe_bl {b j pos} : PE X (.Constant (.bool b) j pos) (tC (.bl b)) := fun _ _ _ H _ I h => Constant_bool ⟨.bl b, H, I, rfl, h⟩
theorem pe_non {j pos} : PE X (.Constant .none j pos) (tC .non) := fun _ _ _ H _ I h => Constant_none ⟨.non, H, I, rfl, h⟩
theorem pe_str {x j pos} : PE X (.Constant (.str x) j pos) (tC (.str x)) := fun _ _ _ H _ I h => Calls.Constant_str ⟨.str x, H, I.tok _, ⟨_, rfl⟩, h⟩

/-- a global name of the def -/
def Gl (X : Cx) (x : Str) : Prop := X.env.kindOf x = some .globalImplicit
theorem ld_glob {E : Value → Shared → Prop} {pins : List (Addr × Obj)} {s : Shared} {σ : St} {H : Hp} {x : Str} {u : Value} {pos : Pos} {Q : Value → Shared → Prop} (I : Inv X pins σ H s) (hg : Gl X x) (hm : X.mg x = some u) (h : Q u s)
    (hd : (x == ("__debug__" : Str)) = false := by decide) : wpAny (model X.prog X.w) X.A (eval (.Name x pos) X.env) Q E s :=
  Calls.Name_function_global I.ok.kind hg (Calls.loadGlobal_global (by rw [I.ok.glob]; exact I.mod.glob.keeps I.bk) hm h) hd
theorem ld_blt {E : Value → Shared → Prop} {pins : List (Addr × Obj)} {s : Shared} {σ : St} {H : Hp} {x : Str} {u : Value} {pos : Pos} {Q : Value → Shared → Prop} (I : Inv X pins σ H s) (hg : Gl X x) (hm : X.mg x = none) (hv : bootBuiltins x = some u) (h : Q u s)
    (hn : x ≠ "__name__" := by decide) (hd : (x == ("__debug__" : Str)) = false := by decide) : wpAny (model X.prog X.w) X.A (eval (.Name x pos) X.env) Q E s := by
  obtain ⟨mb, h1, h2⟩ := I.mod.blt
  exact Calls.Name_function_global I.ok.kind hg (Calls.loadGlobal_builtin (by rw [I.ok.glob]; exact I.mod.glob.keeps I.bk) hm (by rw [I.ok.blt]; exact h1.keeps I.bk) ((h2 x hn).trans hv) h) hd
/-- a module's constant, a class, a function, as a value -/
theorem pe_glob {x : Str} {v : V} {u : Value} {pos : Pos} (hg : Gl X x) (hm : X.mg x = some u) (r : RelV v u) (hd : (x == ("__debug__" : Str)) = false := by decide) : PE X (.Name x pos) (tC v) :=
  fun _ _ _ H _ I h => ld_glob I hg hm ⟨v, H, I, r, h⟩ hd
theorem pe_bltn {x : Str} {v : V} {u : Value} {pos : Pos} (hg : Gl X x) (hm : X.mg x = none) (hv : bootBuiltins x = some u) (r : RelV v u) (hn : x ≠ "__name__" := by decide) (hd : (x == ("__debug__" : Str)) = false := by decide) : PE X (.Name x pos) (tC v) :=
  fun _ _ _ H _ I h => ld_blt I hg hm hv ⟨v, H, I, r, h⟩ hn hd

/-! ### arithmetic -/
/-- two ints -/
def t2I (ta tb : TE) (k : Int → Int → Hp → Prop) : St → Hp → Prop := fun σ H => ta σ H fun x H1 => tb σ H1 fun y H2 => ∃ i j, x = .int i ∧ y = .int j ∧ k i j H2
def tAdd (ta tb : TE) : TE := fun σ H Q => t2I ta tb (fun i j H2 => Q (.int (i + j)) H2) σ H
def tSub (ta tb : TE) : TE := fun σ H Q => t2I ta tb (fun i j H2 => Q (.int (i - j)) H2) σ H
/-- the left factor below 2^64 -/
def tMul (ta tb : TE) : TE := fun σ H Q => t2I ta tb (fun i j H2 => (-(2 ^ 64) < i ∧ i < 2 ^ 64) ∧ Q (.int (i * j)) H2) σ H
variable {a b : Expr} {ta tb : TE} {pos : Pos}
theorem pe_add (ha : PE X a ta) (hb : PE X b tb) : PE X (.BinOp a .Add b pos) (tAdd ta tb) := by
  intro pins s σ H Q I h
  refine wpAny_BinOp (bin ha hb I h fun v u s2 x y H2 I2 rx ry q => ?_)
  obtain ⟨i, j, rfl, rfl, q⟩ := q
  obtain ⟨t, rfl⟩ := rx
  obtain ⟨t', rfl⟩ := ry
  exact add_int ⟨.int _, H2, I2.tok _, ⟨_, rfl⟩, q⟩
theorem pe_sub (ha : PE X a ta) (hb : PE X b tb) : PE X (.BinOp a .Sub b pos) (tSub ta tb) := by
  intro pins s σ H Q I h
  refine wpAny_BinOp (bin ha hb I h fun v u s2 x y H2 I2 rx ry q => ?_)
  obtain ⟨i, j, rfl, rfl, q⟩ := q
  obtain ⟨t, rfl⟩ := rx
  obtain ⟨t', rfl⟩ := ry
  exact sub_int ⟨.int _, H2, I2.tok _, ⟨_, rfl⟩, q⟩
theorem pe_mul (ha : PE X a ta) (hb : PE X b tb) : PE X (.BinOp a .Mult b pos) (tMul ta tb) := by
  intro pins s σ H Q I h
  refine wpAny_BinOp (bin ha hb I h fun v u s2 x y H2 I2 rx ry q => ?_)
  obtain ⟨i, j, rfl, rfl, ⟨q1, q2⟩, q⟩ := q
  obtain ⟨t, rfl⟩ := rx
  obtain ⟨t', rfl⟩ := ry
  exact mul_int ⟨.int _, H2, I2.tok _, ⟨_, rfl⟩, q⟩ (.of_left (intBits_le_64 q1 q2))

/-! ### comparisons -/
def PC (X : Cx) (op : CmpOp) (a b : Expr) (t : TE) : Prop :=
  ∀ (pins : List (Addr × Obj)) (s : Shared) (σ : St) (H : Hp) (Q : VK), Inv X pins σ H s → t σ H Q →
    wpAny (model X.prog X.w) X.A (eval a X.env) (fun v s₁ => wpAny (model X.prog X.w) X.A (eval b X.env) (fun u s₂ => wpAny (model X.prog X.w) X.A (compareOp op v u) (EP X pins σ Q) X.xe s₂) X.xe s₁) X.xe s
theorem nobehind (b : Expr) {op : CmpOp} (h : op ≠ .In) (h2 : op ≠ .NotIn) : behindInMarks op b = false := by
  have e1 : (op == CmpOp.In) = false := by cases op <;> first | rfl | exact absurd rfl h
  have e2 : (op == CmpOp.NotIn) = false := by cases op <;> first | rfl | exact absurd rfl h2
  cases b <;> simp [behindInMarks, e1, e2]
def tCmp (p : Int → Int → Bool) (ta tb : TE) : TE := fun σ H Q => t2I ta tb (fun i j H2 => Q (.bl (p i j)) H2) σ H
abbrev tLt : TE → TE → TE := tCmp fun i j => decide (i < j)
abbrev tLe : TE → TE → TE := tCmp fun i j => decide (i ≤ j)
abbrev tGt : TE → TE → TE := tCmp fun i j => decide (j < i)
abbrev tGe : TE → TE → TE := tCmp fun i j => decide (j ≤ i)
abbrev tEqI : TE → TE → TE := tCmp fun i j => decide (i = j)
abbrev tNeI : TE → TE → TE := tCmp fun i j => !decide (i = j)
/-- a comparison of two ints, by its rule -/
theorem pc_int {op : CmpOp} {p : Int → Int → Bool} (ha : PE X a ta) (hb : PE X b tb)
    (rule : ∀ (i j : Int) (t u : Tok) (Q : Value → Shared → Prop) (s : Shared), Q (.bool (p i j)) s → wpAny (model X.prog X.w) X.A (compareOp op (.int i t) (.int j u)) Q X.xe s) : PC X op a b (tCmp p ta tb) := by
  intro pins s σ H Q I h
  refine bin ha hb I h fun v u s2 x y H2 I2 rx ry q => ?_
  obtain ⟨i, j, rfl, rfl, q⟩ := q
  obtain ⟨t, rfl⟩ := rx
  obtain ⟨t', rfl⟩ := ry
  exact rule i j t t' _ s2 ⟨.bl _, H2, I2, rfl, q⟩
theorem pc_lt (ha : PE X a ta) (hb : PE X b tb) : PC X .Lt a b (tLt ta tb) := pc_int ha hb fun _ _ _ _ _ _ h => lt_int h
theorem pc_le (ha : PE X a ta) (hb : PE X b tb) : PC X .LtE a b (tLe ta tb) := pc_int ha hb fun _ _ _ _ _ _ h => le_int h
theorem pc_gt (ha : PE X a ta) (hb : PE X b tb) : PC X .Gt a b (tGt ta tb) := pc_int ha hb fun _ _ _ _ _ _ h => gt_int h
theorem pc_ge (ha : PE X a ta) (hb : PE X b tb) : PC X .GtE a b (tGe ta tb) := pc_int ha hb fun _ _ _ _ _ _ h => ge_int h
theorem pc_eqI (ha : PE X a ta) (hb : PE X b tb) : PC X .Eq a b (tEqI ta tb) := pc_int ha hb fun _ _ _ _ _ _ h => eq_int (by rw [Bool.beq_eq_decide_eq]; exact h)
theorem pc_neI (ha : PE X a ta) (hb : PE X b tb) : PC X .NotEq a b (tNeI ta tb) := pc_int ha hb fun _ _ _ _ _ _ h => ne_int (by rw [bne, Bool.beq_eq_decide_eq]; exact h)
/-- is None -/
def tIsN (ta : TE) : TE := fun σ H Q => ta σ H fun x H1 => Q (.bl (decide (x = .non))) H1
def tNotN (ta : TE) : TE := fun σ H Q => ta σ H fun x H1 => Q (.bl (!decide (x = .non))) H1
theorem RelV.none_iff {x : V} {v : Value} (r : RelV x v) : (v == Value.none) = decide (x = .non) := by
  cases x with
  | non => cases r; rfl
  | bl _ => cases r; rfl
  | int _ => obtain ⟨t, rfl⟩ := r; rfl
  | str _ => obtain ⟨t, rfl⟩ := r; rfl
  | byt _ => obtain ⟨t, rfl⟩ := r; rfl
  | flt _ => obtain ⟨t, rfl⟩ := r; rfl
  | ref _ => cases r; rfl
  | ty _ => cases r; rfl
theorem pc_isN {j pos'} (ha : PE X a ta) : PC X .Is a (.Constant .none j pos') (tIsN ta) := by
  intro pins s σ H Q I h
  refine thn (ha pins s σ H _ I h) fun v s1 ⟨x, H1, I1, r1, q1⟩ => ?_
  exact Constant_none (is_none_gen ⟨.bl _, H1, I1, by rw [r1.none_iff]; rfl, q1⟩)
theorem pc_notN {j pos'} (ha : PE X a ta) : PC X .IsNot a (.Constant .none j pos') (tNotN ta) := by
  intro pins s σ H Q I h
  refine thn (ha pins s σ H _ I h) fun v s1 ⟨x, H1, I1, r1, q1⟩ => ?_
  exact Constant_none (isnot_none_gen ⟨.bl _, H1, I1, by rw [r1.none_iff]; rfl, q1⟩)
/-- a comparison as a value, as a test -/
def tB (t : TE) : TT := fun σ H Q => t σ H fun x H1 => ∃ c, x = .bl c ∧ Q c H1
theorem pe_cmp {op : CmpOp} {t : TE} (h : PC X op a b t) (h1 : behindInMarks op b = false := by first | exact nobehind _ (by decide) (by decide) | rfl) : PE X (.Compare a [op] [b] pos) t := fun pins s σ H Q I hw => wpAny_Compare1 (h pins s σ H Q I hw) h1
theorem pt_cmp {op : CmpOp} {t : TE} (h : PC X op a b t) (h1 : behindInMarks op b = false := by first | exact nobehind _ (by decide) (by decide) | rfl) : PT X (.Compare a [op] [b] pos) (tB t) := by
  intro pins s σ H Q I hw
  refine wpAny_isTrue_Compare1 (thn (h pins s σ H _ I hw) fun v s1 h1 => thn h1 fun u s2 h2 => thn h2 fun c s3 ⟨x, H1, I1, r1, q1⟩ => ?_) h1
  obtain ⟨d, rfl, q⟩ := q1
  cases r1
  exact wpAny_truthy_bool ⟨H1, I1, q⟩
/-- an expression whose value is a bool, as a test -/
theorem pt_val {e : Expr} {t : TE} (h : PE X e t) (he : ∀ whole, isTrue e X.env whole = (do let v ← whole; standAt e.pos; holding [v] (truthy v)) := by intro _; rfl) : PT X e (tB t) := by
  intro pins s σ H Q I hw
  refine isTrue_plain (thn (h pins s σ H _ I hw) fun v s1 ⟨x, H1, I1, r1, q1⟩ => ?_) (he _)
  obtain ⟨d, rfl, q⟩ := q1
  cases r1
  exact wpAny_truthy_bool ⟨H1, I1, q⟩

/-! ### and, or, not -/
variable {tA tB' : TT} {rest : List Expr}
def tAnd (t u : TT) : TT := fun σ H Q => t σ H fun c H1 => if c = true then u σ H1 Q else Q false H1
def tOr (t u : TT) : TT := fun σ H Q => t σ H fun c H1 => if c = true then Q true H1 else u σ H1 Q
def tNot (t : TT) : TT := fun σ H Q => t σ H fun c H1 => Q (!c) H1
theorem pw_and1 (ha : PT X a tA) : PW X (.BoolOp .And [a] pos) tA := by
  intro wh pins s σ H Q I h
  refine isTrue_and (thn (ha pins s σ H Q I h) fun c s1 e => ?_)
  cases c with
  | true => exact isTrue_and_nil e
  | false => exact e
theorem pw_or1 (ha : PT X a tA) : PW X (.BoolOp .Or [a] pos) tA := by
  intro wh pins s σ H Q I h
  refine isTrue_or (thn (ha pins s σ H Q I h) fun c s1 e => ?_)
  cases c with
  | false => exact isTrue_or_nil e
  | true => exact e
theorem pw_and (ha : PT X a tA) (hb : PW X (.BoolOp .And (b :: rest) pos) tB') : PW X (.BoolOp .And (a :: b :: rest) pos) (tAnd tA tB') := by
  intro wh pins s σ H Q I h
  refine isTrue_and (thn (ha pins s σ H _ I h) fun c s1 ⟨H1, I1, q1⟩ => ?_)
  cases c with
  | true => exact hb wh pins s1 σ H1 Q I1 q1
  | false => exact ⟨H1, I1, q1⟩
theorem pw_or (ha : PT X a tA) (hb : PW X (.BoolOp .Or (b :: rest) pos) tB') : PW X (.BoolOp .Or (a :: b :: rest) pos) (tOr tA tB') := by
  intro wh pins s σ H Q I h
  refine isTrue_or (thn (ha pins s σ H _ I h) fun c s1 ⟨H1, I1, q1⟩ => ?_)
  cases c with
  | true => exact ⟨H1, I1, q1⟩
  | false => exact hb wh pins s1 σ H1 Q I1 q1
theorem pt_not (ha : PT X a tA) : PT X (.UnaryOp .Not a pos) (tNot tA) := by
  intro pins s σ H Q I h
  exact isTrue_not (ha pins s σ H (fun c H1 => Q (!c) H1) I h)
/-- .. as values (bools) -/
def tAndV (ta tb : TE) : TE := fun σ H Q => ta σ H fun x H1 => ∃ c, x = .bl c ∧ if c = true then tb σ H1 Q else Q (.bl false) H1
def tOrV (ta tb : TE) : TE := fun σ H Q => ta σ H fun x H1 => ∃ c, x = .bl c ∧ if c = true then Q (.bl true) H1 else tb σ H1 Q
def tNotV (ta : TE) : TE := fun σ H Q => ta σ H fun x H1 => ∃ c, x = .bl c ∧ Q (.bl (!c)) H1
theorem pe_one {op} {t : TE} (h : PE X a t) : PE X (.BoolOp op [a] pos) t := fun pins s σ H Q I hw => BoolOp_one (h pins s σ H Q I hw)
theorem pe_and (ha : PE X a ta) (hb : PE X (.BoolOp .And (b :: rest) pos) tb) : PE X (.BoolOp .And (a :: b :: rest) pos) (tAndV ta tb) := by
  intro pins s σ H Q I h
  refine BoolOp_and (thn (ha pins s σ H _ I h) fun v s1 ⟨x, H1, I1, r1, q1⟩ => ?_)
  obtain ⟨c, rfl, q1⟩ := q1
  cases r1
  refine wpAny_truthy_bool ?_
  cases c with
  | true => exact hb pins s1 σ H1 Q I1 q1
  | false => exact ⟨.bl false, H1, I1, rfl, q1⟩
theorem pe_or (ha : PE X a ta) (hb : PE X (.BoolOp .Or (b :: rest) pos) tb) : PE X (.BoolOp .Or (a :: b :: rest) pos) (tOrV ta tb) := by
  intro pins s σ H Q I h
  refine BoolOp_or (thn (ha pins s σ H _ I h) fun v s1 ⟨x, H1, I1, r1, q1⟩ => ?_)
  obtain ⟨c, rfl, q1⟩ := q1
  cases r1
  refine wpAny_truthy_bool ?_
  cases c with
  | false => exact hb pins s1 σ H1 Q I1 q1
  | true => exact ⟨.bl true, H1, I1, rfl, q1⟩
theorem pe_not (ha : PE X a ta) : PE X (.UnaryOp .Not a pos) (tNotV ta) := by
  intro pins s σ H Q I h
  refine UnaryOp_ (thn (ha pins s σ H _ I h) fun v s1 ⟨x, H1, I1, r1, q1⟩ => ?_)
  obtain ⟨c, rfl, q1⟩ := q1
  cases r1
  exact not_of (wpAny_truthy_bool ⟨.bl (!c), H1, I1, rfl, q1⟩)
/-- a if t else b -/
def tIf (t : TT) (ta tb : TE) : TE := fun σ H Q => t σ H fun c H1 => if c = true then ta σ H1 Q else tb σ H1 Q
theorem pe_ifExp {c : Expr} (hc : PT X c tA) (ha : PE X a ta) (hb : PE X b tb) : PE X (.IfExp c a b pos) (tIf tA ta tb) := by
  intro pins s σ H Q I h
  refine wpAny_IfExp (thn (hc pins s σ H _ I h) fun d s1 ⟨H1, I1, q1⟩ => ?_)
  cases d with
  | true => exact ha pins s1 σ H1 Q I1 q1
  | false => exact hb pins s1 σ H1 Q I1 q1
end
end L2

namespace L2
open PySem PySem.Spec PyProof.Rows

/-! ### a list, a tuple that is read: tracked, frozen, or an object of the module -/
def SqL (K : PySem.W.Frag) (H : Hp) (a : Addr) (xs : List V) : Prop :=
  Rd H a (.lst xs) ∨
    ∃ (o : Obj) (its : Array Value) (n : Nat), K.lookup a = some o ∧ o.cls = .type "list" ∧ o.dict = none ∧ o.data = .seq its n ∧ its.size ≤ sizeLine ∧ Vals xs its.toList
def SqT (K : PySem.W.Frag) (H : Hp) (a : Addr) (xs : List V) : Prop :=
  Rd H a (.tup xs) ∨
    ∃ (o : Obj) (its : Array Value) (n : Nat), K.lookup a = some o ∧ o.cls = .type "tuple" ∧ o.data = .seq its n ∧ its.size ≤ sizeLine ∧ Vals xs its.toList
def absV : Value → Option V
  | .none => some .non
  | .bool b => some (.bl b)
  | .int i _ => some (.int i)
  | .str x _ => some (.str x)
  | .bytes b _ => some (.byt b)
  | .float b _ => some (.flt b)
  | .ref a => some (.ref a)
  | .type n => some (.ty n)
  | _ => none
theorem RelV.abs {x : V} {u : Value} (r : RelV x u) : absV u = some x := by
  cases x with
  | non => cases r; rfl
  | bl _ => cases r; rfl
  | int _ => obtain ⟨t, rfl⟩ := r; rfl
  | str _ => obtain ⟨t, rfl⟩ := r; rfl
  | byt _ => obtain ⟨t, rfl⟩ := r; rfl
  | flt _ => obtain ⟨t, rfl⟩ := r; rfl
  | ref _ => cases r; rfl
  | ty _ => cases r; rfl
theorem RelV.inj {x y : V} {u : Value} (r : RelV x u) (q : RelV y u) : x = y := Option.some.inj (r.abs.symm.trans q.abs)
theorem Vals.inj : ∀ {xs ys : List V} {us : List Value}, Vals xs us → Vals ys us → xs = ys
  | _, _, _, .nil, .nil => rfl
  | _, _, _, .cons r t, .cons r' t' => by rw [r.inj r', Vals.inj t t']
section
variable {X : Cx} {pins : List (Addr × Obj)} {σ : St} {H : Hp} {s : Shared} {a : Addr} {xs ys : List V}
theorem SqL.of {K : PySem.W.Frag} (h : H a = some (.lst xs)) : SqL K H a xs := .inl (.inl h)
theorem SqT.of {K : PySem.W.Frag} (h : H a = some (.tup xs)) : SqT K H a xs := .inl (.inl h)
theorem Inv.list (I : Inv X pins σ H s) (h : SqL X.K H a xs) : ∃ its : List Value, Vals xs its ∧ PlainL s.heap a its.toArray ∧ xs.length ≤ sizeLine := by
  rcases h with h | ⟨o, its, n, hk, hc, hd, hs, hz, r⟩
  · obtain ⟨z, its, n, r, e⟩ := h.ok I.hok
    exact ⟨its, r, ⟨_, n, e, rfl, rfl, rfl⟩, z⟩
  · refine ⟨its.toList, r, ⟨o, n, I.kIn a o hk, hc, hd, by simpa using hs⟩, ?_⟩
    have e := r.length
    simp only [Array.length_toList] at e
    omega
theorem Inv.tuple (I : Inv X pins σ H s) (h : SqT X.K H a xs) : ∃ its : List Value, Vals xs its ∧ IsTup s.heap a its.toArray ∧ xs.length ≤ sizeLine := by
  rcases h with h | ⟨o, its, n, hk, hc, hs, hz, r⟩
  · obtain ⟨z, its, r, p⟩ := h.ok I.hok
    exact ⟨its, r, p, z⟩
  · refine ⟨its.toList, r, ⟨o, I.kIn a o hk, hc, n, by simpa using hs⟩, ?_⟩
    have e := r.length
    simp only [Array.length_toList] at e
    omega
theorem Inv.list_inj (I : Inv X pins σ H s) (h : SqL X.K H a xs) (h' : SqL X.K H a ys) : xs = ys := by
  obtain ⟨its, r, ⟨o, n, e, _, _, d⟩, _⟩ := I.list h
  obtain ⟨its', r', ⟨o', n', e', _, _, d'⟩, _⟩ := I.list h'
  rw [e] at e'; cases e'
  rw [d] at d'
  injection d' with d1 _
  have : its = its' := by simpa using congrArg Array.toList d1
  subst this
  exact r.inj r'
theorem Inv.tuple_inj (I : Inv X pins σ H s) (h : SqT X.K H a xs) (h' : SqT X.K H a ys) : xs = ys := by
  obtain ⟨its, r, ⟨o, e, _, n, d⟩, _⟩ := I.tuple h
  obtain ⟨its', r', ⟨o', e', _, n', d'⟩, _⟩ := I.tuple h'
  rw [e] at e'; cases e'
  rw [d] at d'
  injection d' with d1 _
  have : its = its' := by simpa using congrArg Array.toList d1
  subst this
  exact r.inj r'
end

/-! ### another wish about exceptions -/
abbrev Cx.wish (X : Cx) (E : Value → Shared → Prop) : Cx := { X with xe := E }
/-- no exception leaves -/
abbrev Cx.nox (X : Cx) : Cx := X.wish fun _ _ => False
theorem Cx.Ok.wish {X : Cx} (ok : X.Ok) (E : Value → Shared → Prop) : (X.wish E).Ok :=
  ⟨ok.mod, ok.kind, ok.glob, ok.blt, ok.above, ok.inj, ok.has, ok.cab, ok.hd, ok.frames, ok.stk, ok.exf, ok.bs, ok.bsz, ok.noex, ok.exfs, ok.funs, ok.frf⟩
theorem Cx.Ok.unwish {X : Cx} {E : Value → Shared → Prop} (ok : (X.wish E).Ok) : X.Ok :=
  ⟨ok.mod, ok.kind, ok.glob, ok.blt, ok.above, ok.inj, ok.has, ok.cab, ok.hd, ok.frames, ok.stk, ok.exf, ok.bs, ok.bsz, ok.noex, ok.exfs, ok.funs, ok.frf⟩
section
variable {X : Cx} {pins : List (Addr × Obj)} {σ : St} {H : Hp} {s : Shared} {E : Value → Shared → Prop}
theorem Inv.wish (I : Inv X pins σ H s) (E : Value → Shared → Prop) : Inv (X.wish E) pins σ H s := ⟨I.ok.wish E, I.os, I.bare, I.base, I.loc, I.cell, I.free, I.freeC, I.pin, I.hok, I.len⟩
theorem Inv.unwish (I : Inv (X.wish E) pins σ H s) : Inv X pins σ H s := ⟨I.ok.unwish, I.os, I.bare, I.base, I.loc, I.cell, I.free, I.freeC, I.pin, I.hok, I.len⟩
theorem SP.unwish {D : Ends} {f : Flow} {s' : Shared} (h : SP (X.wish E) pins D f s') : SP X pins D f s' := by
  cases f with
  | next => obtain ⟨σ', H', I, q⟩ := h; exact ⟨σ', H', I.unwish, q⟩
  | brk => obtain ⟨σ', H', I, q⟩ := h; exact ⟨σ', H', I.unwish, q⟩
  | cont => obtain ⟨σ', H', I, q⟩ := h; exact ⟨σ', H', I.unwish, q⟩
  | ret u => obtain ⟨v, σ', H', I, r, q⟩ := h; exact ⟨v, σ', H', I.unwish, r, q⟩
theorem PE.nox {e : Expr} {t : TE} (h : PE X.nox e t) : PE X e t := fun pins s σ H Q I hw =>
  wpAny_mono (h pins s σ H Q (I.wish _) hw) (fun _ _ ⟨v, H', I', r, q⟩ => ⟨v, H', I'.unwish, r, q⟩) fun _ _ z => False.elim z
theorem PT.nox {e : Expr} {t : TT} (h : PT X.nox e t) : PT X e t := fun pins s σ H Q I hw =>
  wpAny_mono (h pins s σ H Q (I.wish _) hw) (fun _ _ ⟨H', I', q⟩ => ⟨H', I'.unwish, q⟩) fun _ _ z => False.elim z
theorem PSs.nox {st : List Stmt} {t : TS} (h : PSs X.nox st t) : PSs X st t := fun pins s σ H D I hw =>
  wpAny_mono (h pins s σ H D (I.wish _) hw) (fun _ _ q => q.unwish) fun _ _ z => False.elim z
end

/-! ### blocks and small statements -/
section
variable {X : Cx} {st : Stmt} {rest : List Stmt} {t u : TS} {e : Expr} {te : TE} {pos : Pos}
def tNext : TS := fun D σ H => D.nx σ H
def tSeq (t u : TS) : TS := fun D σ H => t { D with nx := u D } σ H
theorem pss_nil : PSs X [] tNext := fun _ _ σ H _ I h => wpAny_execs_nil ⟨σ, H, I, h⟩
theorem pss_cons (h1 : PS X st t) (h2 : PSs X rest u) : PSs X (st :: rest) (tSeq t u) := by
  intro pins s σ H D I h
  refine wpAny_execs_cons (thn (h1 pins s σ H { D with nx := u D } I h) fun f s1 q => ?_)
  cases f with
  | next =>
    obtain ⟨σ', H', I', q⟩ := q
    exact h2 pins s1 σ' H' D I' q
  | ret v => exact q
  | brk => exact q
  | cont => exact q
theorem pss_one (h1 : PS X st t) : PSs X [st] t := by
  intro pins s σ H D I h
  refine wpAny_execs_cons (thn (h1 pins s σ H D I h) fun f s1 q => ?_)
  cases f with
  | next => exact wpAny_execs_nil q
  | ret v => exact q
  | brk => exact q
  | cont => exact q
def tBreak : TS := fun D σ H => D.bk σ H
def tCont : TS := fun D σ H => D.ct σ H
theorem ps_pass : PS X (.Pass pos) tNext := fun _ _ σ H _ I h => wpAny_Pass ⟨σ, H, I, h⟩
theorem ps_break : PS X (.Break pos) tBreak := fun _ _ σ H _ I h => wpAny_Break ⟨σ, H, I, h⟩
theorem ps_continue : PS X (.Continue pos) tCont := fun _ _ σ H _ I h => wpAny_Continue ⟨σ, H, I, h⟩
/-- in a def's body nothing is shown -/
theorem Inv.quiet {pins : List (Addr × Obj)} {σ : St} {H : Hp} {s : Shared} (I : Inv X pins σ H s) : interactive X.env = false := by simp [interactive, I.ok.kind]
/-- a docstring -/
theorem ps_doc {x j pos pos'} : PS X (.Expr (.Constant (.str x) j pos) pos') tNext := fun _ s σ H _ I h => wpAny_Expr (Calls.Constant_str (show SP X _ _ .next { s with toks := s.toks + 1 } from ⟨σ, H, I.tok _, h⟩)) I.quiet
/-- an expression whose value is dropped -/
def tDrop (te : TE) : TS := fun D σ H => te σ H fun _ H1 => D.nx σ H1
theorem ps_expr (he : PE X e te) (hs : swapsWith e none pos.line X.env = pure false := by rfl) : PS X (.Expr e pos) (tDrop te) := by
  intro pins s σ H D I h
  exact wpAny_Expr_any (thn (he pins s σ H _ I h) fun v s1 ⟨x, H1, I1, r1, q1⟩ => ⟨σ, H1, I1, q1⟩) I.quiet hs
def tRet (te : TE) : TS := fun D σ H => te σ H D.rt
theorem ps_ret (he : PE X e te) : PS X (.Return (some e) pos) (tRet te) := by
  intro pins s σ H D I h
  exact wpAny_Return_some (thn (he pins s σ H _ I h) fun v s1 ⟨x, H1, I1, r1, q1⟩ => ⟨x, σ, H1, I1, r1, q1⟩)
def tRetN : TS := fun D _ H => D.rt .non H
theorem ps_retN : PS X (.Return none pos) tRetN := fun _ _ σ H _ I h => wpAny_Return_none ⟨.non, σ, H, I, rfl, h⟩
def tIfS (c : TT) (t u : TS) : TS := fun D σ H => c σ H fun b H1 => if b = true then t D σ H1 else u D σ H1
theorem ps_if {c : Expr} {a b : List Stmt} {tc : TT} (hc : PT X c tc) (ha : PSs X a t) (hb : PSs X b u) : PS X (.If c a b pos) (tIfS tc t u) := by
  intro pins s σ H D I h
  refine wpAny_If (thn (hc pins s σ H _ I h) fun d s1 ⟨H1, I1, q1⟩ => ?_)
  cases d with
  | true => exact ha pins s1 σ H1 D I1 q1
  | false => exact hb pins s1 σ H1 D I1 q1
/-- code that the proof never comes to -/
def tNever : TS := fun _ _ _ => False
theorem ps_never : PS X st tNever := fun _ _ _ _ _ _ h => h.elim
theorem pss_never {sts : List Stmt} : PSs X sts tNever := fun _ _ _ _ _ _ h => h.elim
end

/-! ### targets -/
abbrev TG := V → St → Hp → (St → Hp → Prop) → Prop
abbrev TGs := List V → St → Hp → (St → Hp → Prop) → Prop
def PG (X : Cx) (target : Expr) (t : TG) : Prop :=
  ∀ (pins : List (Addr × Obj)) (s : Shared) (σ : St) (H : Hp) (v : V) (u : Value) (Q : St → Hp → Prop), Inv X pins σ H s → RelV v u → t v σ H Q →
    wpAny (model X.prog X.w) X.A (assign target X.env u) (fun _ s' => ∃ σ' H', Inv X pins σ' H' s' ∧ Q σ' H') X.xe s
/-- several targets, one after another -/
def PGs (X : Cx) (ts : List Expr) (t : TGs) : Prop :=
  ∀ (pins : List (Addr × Obj)) (s : Shared) (σ : St) (H : Hp) (vs : List V) (us : List Value) (Q : St → Hp → Prop), Inv X pins σ H s → Vals vs us → t vs σ H Q →
    wpAny (model X.prog X.w) X.A (assignInOrder ((assignEach ts X.env).map (·.2)) us) (fun _ s' => ∃ σ' H', Inv X pins σ' H' s' ∧ Q σ' H') X.xe s
/-- o[i] = v, by values -/
abbrev TSet := V → V → V → Hp → (Hp → Prop) → Prop
def PSet (X : Cx) (t : TSet) : Prop :=
  ∀ (pins : List (Addr × Obj)) (s : Shared) (σ : St) (H : Hp) (o i v : V) (ov iv u : Value) (Q : Hp → Prop), Inv X pins σ H s → RelV o ov → RelV i iv → RelV v u → t o i v H Q →
    wpAny (model X.prog X.w) X.A (setItem ov iv u) (fun _ s' => ∃ H', Inv X pins σ H' s' ∧ Q H') X.xe s
/-- a op= b, by values -/
abbrev TIp := V → V → Hp → VK → Prop
def PIp (X : Cx) (op : Operator) (t : TIp) : Prop :=
  ∀ (pins : List (Addr × Obj)) (s : Shared) (σ : St) (H : Hp) (x y : V) (v u : Value) (Q : VK), Inv X pins σ H s → RelV x v → RelV y u → t x y H Q →
    wpAny (model X.prog X.w) X.A (inplaceOp op v u) (EP X pins σ Q) X.xe s
section
variable {X : Cx} {pos : Pos}
def gName (i : Nat) : TG := fun v σ H Q => Q (σ.set i (some v)) H
theorem pg_name {i : Nat} {x : Str} (hN : X.N.Nodup) (hi : X.N[i]? = some x) (hx : Loc X.env.scope x) (hf : X.fn x = true ∨ X.env.scope.names.lookup x = some .local := by first | exact .inl rfl | exact .inr rfl | assumption) : PG X (.Name x pos) (gName i) := by
  intro pins s σ H v u Q I r h
  exact wpAny_assign_Name (store_ok I hN hi hx r (fun s' I' => ⟨_, H, I', h⟩) hf)
def gNil : TGs := fun vs σ H Q => vs = [] ∧ Q σ H
def gCons (t : TG) (u : TGs) : TGs := fun vs σ H Q => ∃ v r, vs = v :: r ∧ t v σ H fun σ' H' => u r σ' H' Q
theorem pgs_nil : PGs X [] gNil := by
  intro pins s σ H vs us Q I r h
  obtain ⟨e, h⟩ := h
  subst e
  cases r
  exact assignInOrder_nil ⟨σ, H, I, h⟩
theorem pgs_cons {e : Expr} {es : List Expr} {t : TG} {u : TGs} (h1 : PG X e t) (h2 : PGs X es u)
    (hs : (assignEach (e :: es) X.env).map (·.2) = assign e X.env :: (assignEach es X.env).map (·.2) := by rfl) : PGs X (e :: es) (gCons t u) := by
  intro pins s σ H vs us Q I r h
  obtain ⟨v, vr, e1, h⟩ := h
  subst e1
  cases r with
  | cons r rr =>
    rw [hs]
    refine assignInOrder_cons (thn (h1 pins s σ H _ _ _ I r h) fun _ s1 ⟨σ1, H1, I1, q1⟩ => ?_)
    exact h2 pins s1 σ1 H1 _ _ Q I1 rr q1
/-- (a, b, ..) = a tuple of that length -/
def gTup (K : PySem.W.Frag) (n : Nat) (t : TGs) : TG := fun v σ H Q => ∃ a xs, v = .ref a ∧ SqT K H a xs ∧ xs.length = n ∧ t xs σ H Q
theorem pg_tup {es : List Expr} {k : Nat} {t : TGs} {n : Nat} (hc : X.calm = true) (h : PGs X es t)
    (hn : (assignEach es X.env).length = n := by rfl) (hst : (assignEach es X.env).findIdx? (·.1) = none := by rfl) : PG X (.Tuple es k pos) (gTup X.K n t) := by
  intro pins s σ H v u Q I r hw
  obtain ⟨a, xs, e1, hq, hl, hw⟩ := hw
  subst e1
  cases r
  obtain ⟨its, rv, ht, hz⟩ := I.tuple hq
  refine assign_Tuple_tuple (I.ok.hd hc) ht (by simp [hn, ← hl, rv.length]) hst fun h' hx => ?_
  have I1 : Inv X pins σ H { s with heap := h' } := I.kept (t' := s.toks) fun b o e => hx b o (Nat.ne_of_lt (Heap.lt_size e)) e
  exact h pins _ σ H xs _ Q I1 (by simpa using rv) hw
/-- o[i] = .. -/
def gSub (to ti : TE) (t : TSet) : TG := fun v σ H Q => to σ H fun o H1 => ti σ H1 fun i H2 => t o i v H2 fun H3 => Q σ H3
theorem pg_sub {o i : Expr} {to ti : TE} {t : TSet} (ho : PE X o to) (hi : PE X i ti) (hs : PSet X t)
    (ha : ∀ v, assign (.Subscript o i pos) X.env v = (do
      let ov ← holding [v] (eval o X.env)
      let iv ← holding [v, ov] (eval i X.env)
      standAt pos
      holding [v, ov, iv] (setItem ov iv v)
      release [v, ov, iv] []) := by intro _; rfl) : PG X (.Subscript o i pos) (gSub to ti t) := by
  intro pins s σ H v u Q I r h
  rw [ha]
  refine wpAny_bind (wpAny_holding (thn (ho pins s σ H _ I h) fun ov s1 ⟨x, H1, I1, r1, q1⟩ => ?_))
  refine wpAny_bind (wpAny_holding (thn (hi pins s1 σ H1 _ I1 q1) fun iv s2 ⟨y, H2, I2, r2, q2⟩ => ?_))
  refine wpAny_bind (wpAny_standAt (wpAny_bind (wpAny_holding (thn (hs pins s2 σ H2 x y v ov iv u _ I2 r1 r2 r q2) fun _ s3 ⟨H3, I3, q3⟩ => ?_))))
  exact wpAny_release ⟨σ, H3, I3, q3⟩
/-- target = value -/
def tAsg (te : TE) (g : TG) : TS := fun D σ H => te σ H fun x H1 => g x σ H1 D.nx
theorem ps_asg {tg e : Expr} {te : TE} {g : TG} (he : PE X e te) (hg : PG X tg g) (hs : swapsWithSole [tg] e pos.line X.env = pure false := by rfl) (hw : swappedStores [tg] e X.env = pure none := by rfl)
    (h1 : (assignEach [tg] X.env).map (·.2) = [assign tg X.env] := by rfl) : PS X (.Assign [tg] e pos) (tAsg te g) := by
  intro pins s σ H D I h
  refine wpAny_Assign_stores (thn (he pins s σ H _ I h) fun v s1 ⟨x, H1, I1, r1, q1⟩ => ?_) hs hw
  rw [h1]
  exact thn (hg pins s1 σ H1 x v _ I1 r1 q1) fun _ s2 q => q
/-- name = value -/
theorem ps_set {i : Nat} {x : Str} {e : Expr} {te : TE} {pos' : Pos} (hN : X.N.Nodup) (hi : X.N[i]? = some x) (hx : Loc X.env.scope x) (he : PE X e te) (hs : swapsWith e (some (.Name x pos')) pos.line X.env = pure false := by rfl) (hf : X.fn x = true ∨ X.env.scope.names.lookup x = some .local := by first | exact .inl rfl | exact .inr rfl | assumption) :
    PS X (.Assign [.Name x pos'] e pos) (tAsg te (gName i)) := by
  intro pins s σ H D I h
  refine wpAny_Assign_Name (thn (he pins s σ H _ I h) fun v s1 ⟨y, H1, I1, r1, q1⟩ => ?_) hs
  exact store_ok I1 hN hi hx r1 (fun s2 I2 => ⟨_, H1, I2, q1⟩) hf
/-- a, b = x, y with plain local names: stored from the right; the pair itself is not tracked (the opening rows as in PyProof/Rows/TupAssign.lean:23) -/
def tPar (i j : Nat) (ta : TA) : TS := fun D σ H => ta σ H fun vs H1 => ∃ v w, vs = [v, w] ∧ D.nx ((σ.set i (some v)).set j (some w)) H1
theorem ps_par {i j : Nat} {x y : Str} {a b : Expr} {ta : TA} {px py pt : Pos} {kt k2 pt2} (hc : X.calm = true) (hN : X.N.Nodup) (hi : X.N[i]? = some x) (hj : X.N[j]? = some y) (hij : i ≠ j)
    (hx : X.env.scope.names.lookup x = some .local) (hy : X.env.scope.names.lookup y = some .local) (ha : PA X [a, b] ta)
    (hw : swappedStores [.Tuple [.Name x px, .Name y py] kt pt] (.Tuple [a, b] k2 pt2) X.env = pure (some [x, y]))
    (hs : swapsWithSole [.Tuple [.Name x px, .Name y py] kt pt] (.Tuple [a, b] k2 pt2) pos.line X.env = pure false := by rfl) :
    PS X (.Assign [.Tuple [.Name x px, .Name y py] kt pt] (.Tuple [a, b] k2 pt2) pos) (tPar i j ta) := by
  intro pins s σ H D I h
  rw [exec_Assign_arm]
  refine wpAny_bind (wpAny_standAt ?_)
  rw [hs]
  refine wpAny_bind (wpAny_pure ?_)
  rw [if_neg (by decide)]
  refine wpAny_bind (Tuple_ (thn (ha _ pins s σ H _ I h) fun us s1 ⟨vs, H1, I1, r1, q1⟩ => ?_))
  obtain ⟨v, w, e1, q1⟩ := q1
  subst e1
  obtain ⟨u1, u2, rfl, rv, rw'⟩ : ∃ u1 u2, us = [u1, u2] ∧ RelV v u1 ∧ RelV w u2 := by
    cases r1 with
    | cons p q =>
      cases q with
      | cons p' q' =>
        cases q'
        exact ⟨_, _, rfl, p, p'⟩
  refine wpAny_newObj_type ?_ (by show 2 ≤ sizeLine; decide)
  have I2 : Inv X pins σ H1 { s1 with heap := s1.heap.push { cls := .type "tuple", data := .seq [u1, u2].toArray } } := I1.kept (t' := s1.toks) fun b o e => Heap.get?_push_of_some _ e
  rw [hw]
  refine wpAny_bind (wpAny_pure ?_)
  show wpAny (model X.prog X.w) X.A (do rule "assign.swapped-stores"; let items ← unpackItems (.ref s1.heap.objs.size) 2 none; assignInOrder [fun v => bindName X.env y v, fun v => bindName X.env x v] items.reverse; pure Flow.next) _ _ _
  refine wpAny_bind (wpAny_rule (wpAny_bind (unpackItems_tuple (items := #[u1, u2]) (I.ok.hd hc) (IsTup.new s1.heap _) fun h' hx' => ?_)))
  have I3 := I2.kept (h' := h') (t' := s1.toks) fun b o e => hx' b o (Nat.ne_of_lt (Heap.lt_size e)) e
  show wpAny _ _ (assignInOrder [fun v => bindName X.env y v, fun v => bindName X.env x v] [u2, u1] >>= fun _ => pure Flow.next) _ _ _
  refine wpAny_bind (assignInOrder_cons (wpAny_bindName (store_ok I3 hN hj (.inl hy) rw' (fun s2 I4 => ?_) (.inr hy))))
  refine assignInOrder_cons (wpAny_bindName (store_ok I4 hN hi (.inl hx) rv (fun s3 I5 => assignInOrder_nil (wpAny_pure ?_)) (.inr hx)))
  rw [List.set_comm _ _ (Ne.symm hij)] at I5
  exact ⟨_, H1, I5, q1⟩
/-- name op= e -/
def tAug (i : Nat) (te : TE) (ti : TIp) : TS := fun D σ H => ∃ x, σ[i]? = some (some x) ∧ te σ H fun y H1 => ti x y H1 fun z H2 => D.nx (σ.set i (some z)) H2
theorem ps_aug {i : Nat} {x : Str} {e : Expr} {te : TE} {op : Operator} {ti : TIp} {pos' : Pos} (hN : X.N.Nodup) (hi : X.N[i]? = some x) (hx : Loc X.env.scope x) (he : PE X e te) (ho : PIp X op ti) (hf : X.fn x = true ∨ X.env.scope.names.lookup x = some .local := by first | exact .inl rfl | exact .inr rfl | assumption) :
    PS X (.AugAssign (.Name x pos') op e pos) (tAug i te ti) := by
  intro pins s σ H D I h
  obtain ⟨v, e1, h⟩ := h
  obtain ⟨m, hn, hl⟩ := I.loc
  have vis : Vis X.env.scope x := by rcases hx with k | k; exact .inl k; exact .inr (.inl k)
  obtain ⟨u, r, l⟩ := hl i x v hi e1 vis
  refine wpAny_AugAssign_Name ?_
  have go : wpAny (model X.prog X.w) X.A (eval e X.env) (fun w s₂ => wpAny (model X.prog X.w) X.A (inplaceOp op u w) (fun r s₃ => wpAny (model X.prog X.w) X.A (storeName X.env x r) (fun _ => SP X pins D .next) X.xe s₃) X.xe s₂) X.xe s := by
    refine thn (he pins s σ H _ I h) fun w s1 ⟨y, H1, I1, r1, q1⟩ => ?_
    refine thn (ho pins s1 σ H1 v y u w _ I1 r r1 q1) fun z s2 ⟨zv, H2, I2, r2, q2⟩ => ?_
    exact store_ok I2 hN hi hx r2 (fun s3 I3 => ⟨_, H2, I3, q2⟩) hf
  rcases l with ⟨hk, hm⟩ | ⟨hk, c, hc, hcell⟩
  · exact wpAny_loadName_local I.ok.kind hk hn hm go
  · rcases hk with hk | hk
    · exact wpAny_loadName_cell I.ok.kind hk hc hcell go
    · rcases hx with k | k
      · have : X.env.scope.names.lookup x = some .free := hk
        rw [k] at this; cases this
      · have : X.env.scope.names.lookup x = some .free := hk
        rw [k] at this; cases this
/-- o[i] op= e -/
def tAugS (to ti te : TE) (tget : V → V → Hp → VK → Prop) (tip : TIp) (tset : TSet) : TS := fun D σ H => to σ H fun o H1 => ti σ H1 fun i H2 => tget o i H2 fun x H3 => te σ H3 fun y H4 => tip x y H4 fun z H5 => tset o i z H5 fun H6 => D.nx σ H6
/-- o[i], by values -/
def PGet (X : Cx) (t : V → V → Hp → VK → Prop) : Prop :=
  ∀ (pins : List (Addr × Obj)) (s : Shared) (σ : St) (H : Hp) (o i : V) (ov iv : Value) (Q : VK), Inv X pins σ H s → RelV o ov → RelV i iv → t o i H Q →
    wpAny (model X.prog X.w) X.A (getItem ov iv) (EP X pins σ Q) X.xe s
theorem ps_augS {o i e : Expr} {to ti te : TE} {tget : V → V → Hp → VK → Prop} {tip : TIp} {tset : TSet} {op : Operator} {tpos : Pos} (ho : PE X o to) (hi : PE X i ti) (hg : PGet X tget) (he : PE X e te) (hp : PIp X op tip) (hs : PSet X tset)
    (ha : ∀ ov iv new, augStore i ov iv new = (do holding [new, ov, iv] (setItem ov iv new); release [new, ov, iv] []; pure .next) := by intros; rfl) : PS X (.AugAssign (.Subscript o i tpos) op e pos) (tAugS to ti te tget tip tset) := by
  intro pins s σ H D I h
  refine wpAny_AugAssign_SubscriptAny (thn (ho pins s σ H _ I h) fun ov s1 ⟨x1, H1, I1, r1, q1⟩ => ?_) ha
  refine thn (hi pins s1 σ H1 _ I1 q1) fun iv s2 ⟨x2, H2, I2, r2, q2⟩ => ?_
  refine thn (hg pins s2 σ H2 x1 x2 ov iv _ I2 r1 r2 q2) fun old s3 ⟨x3, H3, I3, r3, q3⟩ => ?_
  refine thn (he pins s3 σ H3 _ I3 q3) fun v s4 ⟨x4, H4, I4, r4, q4⟩ => ?_
  refine thn (hp pins s4 σ H4 x3 x4 old v _ I4 r3 r4 q4) fun new s5 ⟨x5, H5, I5, r5, q5⟩ => ?_
  exact thn (hs pins s5 σ H5 x1 x2 x5 ov iv new _ I5 r1 r2 r5 q5) fun _ s6 ⟨H6, I6, q6⟩ => ⟨σ, H6, I6, q6⟩
/-- ints -/
def ipI (f : Int → Int → Int) : TIp := fun x y H Q => ∃ i j, x = .int i ∧ y = .int j ∧ Q (.int (f i j)) H
theorem ip_add : PIp X .Add (ipI fun i j => i + j) := by
  intro pins s σ H x y v u Q I r1 r2 h
  obtain ⟨i, j, e1, e2, q⟩ := h
  subst e1; subst e2
  obtain ⟨t, rfl⟩ := r1
  obtain ⟨t', rfl⟩ := r2
  exact iadd_int ⟨.int _, H, I.tok _, ⟨_, rfl⟩, q⟩
theorem ip_sub : PIp X .Sub (ipI fun i j => i - j) := by
  intro pins s σ H x y v u Q I r1 r2 h
  obtain ⟨i, j, e1, e2, q⟩ := h
  subst e1; subst e2
  obtain ⟨t, rfl⟩ := r1
  obtain ⟨t', rfl⟩ := r2
  exact isub_int ⟨.int _, H, I.tok _, ⟨_, rfl⟩, q⟩
end

/-! ### while -/
section
variable {X : Cx} {pos : Pos}
/-- the invariant W with its measure -/
def tWhile (c : TT) (tb : TS) : TS := fun D σ H => ∃ W : Nat → St → Hp → Prop, (∃ m, W m σ H) ∧ ∀ m σ H, W m σ H →
  c σ H fun b H1 => if b = true then ∃ N : St → Hp → Prop, (∀ σ' H', N σ' H' → ∃ m', m' < m ∧ W m' σ' H') ∧ tb { D with nx := N, ct := N, bk := D.nx } σ H1 else D.nx σ H1
theorem ps_while {c : Expr} {body : List Stmt} {tc : TT} {tb : TS} (hp : PassesOwn (model X.prog X.w) X.A X.env X.xe) (hc : PT X c tc) (hb : PSs X body tb) : PS X (.While c body [] pos) (tWhile tc tb) := by
  intro pins s σ H D I h
  obtain ⟨W, ⟨m0, w0⟩, turn⟩ := h
  refine wpAny_While (codeAny_whileLoop (fun n s' => ∃ σ' H', Inv X pins σ' H' s' ∧ W n σ' H') ?_ m0 ⟨σ, H, I, w0⟩)
  rintro n s1 ⟨σ1, H1, I1, w1⟩
  refine wpAny_passesOwn hp (thn (hc pins s1 σ1 H1 _ I1 (turn n σ1 H1 w1)) fun b s2 ⟨H2, I2, q2⟩ => ?_)
  cases b with
  | true =>
    obtain ⟨N, hN, q2⟩ := q2
    rw [if_pos rfl]
    refine wpAny_passesOwn hp (thn (hb pins s2 σ1 H2 _ I2 q2) fun f s3 q3 => ?_)
    cases f with
    | next =>
      obtain ⟨σ3, H3, I3, n3⟩ := q3
      obtain ⟨m', hm, w3⟩ := hN σ3 H3 n3
      exact ⟨m', hm, σ3, H3, I3, w3⟩
    | cont =>
      obtain ⟨σ3, H3, I3, n3⟩ := q3
      obtain ⟨m', hm, w3⟩ := hN σ3 H3 n3
      exact ⟨m', hm, σ3, H3, I3, w3⟩
    | brk => exact q3
    | ret v => exact q3
  | false =>
    rw [if_neg Bool.false_ne_true]
    exact wpAny_execs_nil ⟨σ1, H2, I2, q2⟩
end

/-! ### what a loop or a comprehension walks -/
/-- at turn i: it yields x (the heap may grow), or it stops -/
structure It where
  go : Nat → Hp → Prop
  yld : Nat → Hp → V → Hp → Prop
  stop : Nat → Hp → Prop
/-- the iterator's own objects may turn: they are not the frame's, not pinned, younger than the entry (or a comprehension's own) -/
def FpOk (X : Cx) (pins : List (Addr × Obj)) (H : Hp) (b : Addr) : Prop :=
  H b = none ∧ b ≠ X.env.locals ∧ b ∉ X.fs ∧ (b ∈ X.ex ∨ X.s₀.heap.objs.size ≤ b) ∧ (∀ x c, X.env.cells.lookup x = some c → c ≠ b) ∧ ∀ p ∈ X.pn ++ pins, p.1 ≠ b
theorem Inv.fpOk {X : Cx} {pins : List (Addr × Obj)} {σ : St} {H H' : Hp} {s : Shared} {b : Addr} (I : Inv X pins σ H s) (hb : s.heap.objs.size ≤ b) (hn : H' b = none) : FpOk X pins H' b := by
  refine ⟨hn, Nat.ne_of_gt (Nat.lt_of_lt_of_le I.lt hb), I.nofs hb, .inr (Nat.le_trans I.sz hb), fun x c e z => ?_, fun p hp z => ?_⟩
  · obtain ⟨v, q⟩ := I.cell x c e
    exact absurd (Nat.lt_of_lt_of_le q.lt (by rw [z]; exact hb)) (Nat.lt_irrefl _)
  · exact absurd (Nat.lt_of_lt_of_le (Heap.lt_size (I.pin p hp).1) (by rw [z]; exact hb)) (Nat.lt_irrefl _)
structure Turn (P : Program) (w : World) (K : PySem.W.Frag) (tg : Expr) (J : It) (fp : List Addr) (it : Addr) (tn : Nat → Heap → Prop) : Prop where
  mem : it ∈ fp
  obj : ∀ i h, tn i h → ∀ b ∈ fp, ∃ o, h.get? b = some o ∧ ∀ v, o.data ≠ .cell v
  keep : ∀ i h h', tn i h → (∀ b ∈ fp, ∀ o, h.get? b = some o → h'.get? b = some o) → tn i h'
  item : ∀ (X : Cx), X.prog = P → X.w = w → X.K = K → X.calm = true → ∀ (i : Nat) (pins : List (Addr × Obj)) (s : Shared) (σ : St) (H : Hp) (E : Value → Shared → Prop), Inv X pins σ H s → (∀ b ∈ fp, FpOk X pins H b) → tn i s.heap → J.go i H →
    wpAny (model P w) X.A (pyNext (.ref it)) (fun r s1 => ∃ u, r = some u ∧
      wpAny (model P w) X.A (letOwnedTupleGo tg (.ref it) u) (fun _ s2 => ∃ x H', Inv X pins σ H' s2 ∧ RelV x u ∧ J.yld i H x H' ∧ tn (i + 1) s2.heap ∧ ∀ b ∈ fp, H' b = none) E s1) E s
  done : ∀ (X : Cx), X.prog = P → X.w = w → X.K = K → X.calm = true → ∀ (i : Nat) (pins : List (Addr × Obj)) (s : Shared) (σ : St) (H : Hp) (E : Value → Shared → Prop), Inv X pins σ H s → (∀ b ∈ fp, FpOk X pins H b) → tn i s.heap → J.stop i H →
    wpAny (model P w) X.A (pyNext (.ref it)) (fun r s1 => r = none ∧ Inv X pins σ H s1) E s
  self : ∀ (A : Around) (i : Nat) (s : Shared) (Q : Value → Shared → Prop) (E : Value → Shared → Prop), tn i s.heap → Q (.ref it) s → wpAny (model P w) A (pyIter (.ref it)) Q E s
abbrev TI := St → Hp → (It → Hp → Prop) → Prop
/-- an iterator has come -/
def PIE (X : Cx) (pins : List (Addr × Obj)) (σ : St) (tg : Expr) (R : It → Hp → Prop) (itv : Value) (s2 : Shared) : Prop :=
  ∃ (it : Addr) (fp : List Addr) (tn : Nat → Heap → Prop) (J : It) (H' : Hp), itv = .ref it ∧ Inv X pins σ H' s2 ∧ Turn X.prog X.w X.K tg J fp it tn ∧ tn 0 s2.heap ∧ (∀ b ∈ fp, FpOk X pins H' b) ∧ R J H'
def PI (X : Cx) (tg iter : Expr) (wi : TI) : Prop :=
  ∀ (pins : List (Addr × Obj)) (s : Shared) (σ : St) (H : Hp) (R : It → Hp → Prop), Inv X pins σ H s → wi σ H R →
    wpAny (model X.prog X.w) X.A (eval iter X.env) (fun v s1 => wpAny (model X.prog X.w) X.A (pyIter v) (PIE X pins σ tg R) X.xe s1) X.xe s

/-- the step ahead of the store is nothing for an iterator that keeps no tuple -/
theorem go_of {M : Model} {A : Around} {E : Value → Shared → Prop} {s : Shared} {tg : Expr} {it : Addr} {u : Value} {o : Obj} {n : String} {vs : Array Value} {Q : Unit → Shared → Prop} (ho : s.heap.get? it = some o) (hc : o.cls = .type n) (hd : o.data = .fields vs)
    (hn : ["enumerate", "zip", "dict_itemiterator", "dict_reverseitemiterator", "odict_iterator", "itertools.zip_longest", "itertools.pairwise"].contains n = false) (hQ : Q () s) : wpAny M A (letOwnedTupleGo tg (.ref it) u) Q E s := by
  unfold letOwnedTupleGo
  cases tg <;> first
    | exact wpAny_pure hQ
    | (cases u <;> first
        | exact wpAny_pure hQ
        | (refine wpAny_bind (wpAny_load ho ?_)
           rw [hc, hd]
           show wpAny M A (if (["enumerate", "zip", "dict_itemiterator", "dict_reverseitemiterator", "odict_iterator", "itertools.zip_longest", "itertools.pairwise"].contains n && vs[0]? == some (rawInt _)) = true then _ else _) Q E s
           rw [if_neg (by intro h; rw [hn, Bool.false_and] at h; cases h)]
           exact wpAny_pure hQ))

/-- the list at a, as it stands at each turn (a loop may append to it) -/
def Itl (K : PySem.W.Frag) (a : Addr) : It :=
  ⟨fun i H => ∃ xs x, SqL K H a xs ∧ xs[i]? = some x, fun i H x H' => H' = H ∧ ∀ xs, SqL K H a xs → xs[i]? = some x, fun i H => ∃ xs, SqL K H a xs ∧ xs.length ≤ i⟩
def Itt (K : PySem.W.Frag) (a : Addr) : It :=
  ⟨fun i H => ∃ xs x, SqT K H a xs ∧ xs[i]? = some x, fun i H x H' => H' = H ∧ ∀ xs, SqT K H a xs → xs[i]? = some x, fun i H => ∃ xs, SqT K H a xs ∧ xs.length ≤ i⟩
/-- lo, lo + 1, .. (n of them) -/
def Itr (lo : Int) (n : Nat) : It := ⟨fun i _ => i < n, fun i H x H' => H' = H ∧ x = .int (lo + i), fun i _ => n ≤ i⟩
theorem turn_list {P : Program} {w : World} {K : PySem.W.Frag} {tg : Expr} (a it : Addr) : Turn P w K tg (Itl K a) [it] it (fun i h => h.IsListIter it a i) where
  mem := by simp
  obj := fun i h st b hb => by
    have e : b = it := by simpa using hb
    subst e
    obtain ⟨o, e, c, d⟩ := st
    exact ⟨o, e, fun v z => by rw [d] at z; cases z⟩
  keep := fun i h h' st k => st.at fun o e => k it (by simp) o e
  item := by
    intro X hP hw hK hc i pins s σ H E I hf st hg
    subst hP hw hK
    obtain ⟨xs, x, hq, hx⟩ := hg
    obtain ⟨its, rv, p, hz⟩ := I.list hq
    obtain ⟨u, hu, ru⟩ := rv.get hx
    obtain ⟨f0, f1, f2, f3, f4, f5⟩ := hf it (by simp)
    refine wpAny_pyNext_list_item st p.isList (x := u) (by simpa using hu) fun h' st' sb => ?_
    have I1 : Inv X pins σ H { s with heap := h' } := I.turned (t' := s.toks) (fun b o hb e => (sb.2 b hb).trans e) f0 f1 f3 f4 f5
    obtain ⟨o, e, c, d⟩ := id st'
    exact ⟨u, rfl, go_of (s := { s with heap := h' }) e c d (by decide) ⟨x, H, I1, ru, ⟨rfl, fun ys hy => by rw [I.list_inj hy hq]; exact hx⟩, st', fun b hb => (hf b hb).1⟩⟩
  done := by
    intro X hP hw hK hc i pins s σ H E I hf st hg
    subst hP hw hK
    obtain ⟨xs, hq, hx⟩ := hg
    obtain ⟨its, rv, p, hz⟩ := I.list hq
    obtain ⟨f0, f1, f2, f3, f4, f5⟩ := hf it (by simp)
    have hl := rv.length
    exact wpAny_pyNext_list_end (I.ok.hd hc) st p.isList (by simp; omega) fun h' eb => ⟨rfl, I.turned (t' := s.toks) (fun b o hb e => eb b o hb e) f0 f1 f3 f4 f5⟩
  self := fun _ _ _ _ _ st h => wpAny_pyIter_listiter st h
theorem turn_tuple {P : Program} {w : World} {K : PySem.W.Frag} {tg : Expr} (a it : Addr) : Turn P w K tg (Itt K a) [it] it (fun i h => h.IsTupleIter it a i) where
  mem := by simp
  obj := fun i h st b hb => by
    have e : b = it := by simpa using hb
    subst e
    obtain ⟨o, e, c, d⟩ := st
    exact ⟨o, e, fun v z => by rw [d] at z; cases z⟩
  keep := fun i h h' st k => st.at fun o e => k it (by simp) o e
  item := by
    intro X hP hw hK hc i pins s σ H E I hf st hg
    subst hP hw hK
    obtain ⟨xs, x, hq, hx⟩ := hg
    obtain ⟨its, rv, p, hz⟩ := I.tuple hq
    obtain ⟨u, hu, ru⟩ := rv.get hx
    obtain ⟨f0, f1, f2, f3, f4, f5⟩ := hf it (by simp)
    refine wpAny_pyNext_tuple_item st (show s.heap.IsTuple a its.toArray from p) (x := u) (by simpa using hu) fun h' st' sb => ?_
    have I1 : Inv X pins σ H { s with heap := h' } := I.turned (t' := s.toks) (fun b o hb e => (sb.2 b hb).trans e) f0 f1 f3 f4 f5
    obtain ⟨o, e, c, d⟩ := id st'
    exact ⟨u, rfl, go_of (s := { s with heap := h' }) e c d (by decide) ⟨x, H, I1, ru, ⟨rfl, fun ys hy => by rw [I.tuple_inj hy hq]; exact hx⟩, st', fun b hb => (hf b hb).1⟩⟩
  done := by
    intro X hP hw hK hc i pins s σ H E I hf st hg
    subst hP hw hK
    obtain ⟨xs, hq, hx⟩ := hg
    obtain ⟨its, rv, p, hz⟩ := I.tuple hq
    obtain ⟨f0, f1, f2, f3, f4, f5⟩ := hf it (by simp)
    have hl := rv.length
    exact wpAny_pyNext_tuple_end (I.ok.hd hc) st (show s.heap.IsTuple a its.toArray from p) (by simp; omega) fun h' eb => ⟨rfl, I.turned (t' := s.toks) (fun b o hb e => eb b o hb e) f0 f1 f3 f4 f5⟩
  self := fun _ _ _ _ _ st h => wpAny_pyIter_tupleiter st h
theorem turn_range {P : Program} {w : World} {K : PySem.W.Frag} {tg : Expr} (it : Addr) (lo : Int) (n : Nat) : Turn P w K tg (Itr lo n) [it] it (fun i h => IsRangeIter h it (lo + (i : Nat) * 1) ((n : Int) - (i : Nat)) 1) where
  mem := by simp
  obj := fun i h st b hb => by
    have e : b = it := by simpa using hb
    subst e
    exact ⟨_, st, fun v z => by
      have z' : Data.fields _ = Data.cell v := z
      cases z'⟩
  keep := fun i h h' st k => k it (by simp) _ st
  item := by
    intro X hP hw hK hc i pins s σ H E I hf st hg
    subst hP hw hK
    obtain ⟨f0, f1, f2, f3, f4, f5⟩ := hf it (by simp)
    have W := Walks.range (prog := X.prog) (w := X.w) (I.ok.hd hc) it lo 1 n
    refine W.item i s _ _ hg st fun v h' tk hv st' kk => ?_
    obtain ⟨t, rfl⟩ := hv
    have I1 : Inv X pins σ H { s with heap := h', toks := tk } := I.turned (fun b o hb e => kk b o (by simpa using hb) e) f0 f1 f3 f4 f5
    refine ⟨_, rfl, go_of (s := { s with heap := h', toks := tk }) (n := "range_iterator") st' rfl rfl (by decide) ⟨.int (lo + i), H, I1, ⟨t, ?_⟩, ⟨rfl, rfl⟩, st', fun b hb => (hf b hb).1⟩⟩
    rw [Int.mul_one]
  done := by
    intro X hP hw hK hc i pins s σ H E I hf st hg
    subst hP hw hK
    obtain ⟨f0, f1, f2, f3, f4, f5⟩ := hf it (by simp)
    exact wpAny_pyNext_range_end (I.ok.hd hc) st (by have : n ≤ i := hg; omega) fun h' eb => ⟨rfl, I.turned (t' := s.toks) (fun b o hb e => eb b o hb e) f0 f1 f3 f4 f5⟩
  self := fun _ _ _ _ _ st h => wpAny_pyIter_rangeiter st h
end L2

namespace L2
open PySem PySem.Spec PyProof.Rows
section
variable {X : Cx} {tg : Expr}
def iList (K : PySem.W.Frag) (tl : TE) : TI := fun σ H R => tl σ H fun x H1 => ∃ a, x = .ref a ∧ (∃ xs, SqL K H1 a xs) ∧ R (Itl K a) H1
def iTup (K : PySem.W.Frag) (tl : TE) : TI := fun σ H R => tl σ H fun x H1 => ∃ a, x = .ref a ∧ (∃ xs, SqT K H1 a xs) ∧ R (Itt K a) H1
theorem pi_list {l : Expr} {tl : TE} (hl : PE X l tl) : PI X tg l (iList X.K tl) := by
  intro pins s σ H R I h
  refine thn (hl pins s σ H _ I h) fun v s1 ⟨x, H1, I1, r1, q1⟩ => ?_
  obtain ⟨a, e, ⟨xs, hq⟩, q⟩ := q1
  subst e
  cases r1
  obtain ⟨its, rv, p, hz⟩ := I1.list hq
  refine wpAny_pyIter_list p.isList ?_
  refine ⟨s1.heap.objs.size, [s1.heap.objs.size], _, _, H1, rfl, I1.kept (t' := s1.toks) fun b o e => Heap.get?_push_of_some _ e, turn_list a _, ⟨_, Heap.get?_push_size _ rfl, rfl, rfl⟩, fun b hb => ?_, q⟩
  have e : b = s1.heap.objs.size := by simpa using hb
  subst e
  exact I1.fpOk (Nat.le_refl _) (I1.hok.fresh (Nat.le_refl _))
theorem pi_tup {l : Expr} {tl : TE} (hl : PE X l tl) : PI X tg l (iTup X.K tl) := by
  intro pins s σ H R I h
  refine thn (hl pins s σ H _ I h) fun v s1 ⟨x, H1, I1, r1, q1⟩ => ?_
  obtain ⟨a, e, ⟨xs, hq⟩, q⟩ := q1
  subst e
  cases r1
  obtain ⟨its, rv, p, hz⟩ := I1.tuple hq
  refine wpAny_pyIter_tuple (show s1.heap.IsTuple a its.toArray from p) ?_
  refine ⟨s1.heap.objs.size, [s1.heap.objs.size], _, _, H1, rfl, I1.kept (t' := s1.toks) fun b o e => Heap.get?_push_of_some _ e, turn_tuple a _, ⟨_, Heap.get?_push_size _ rfl, rfl, rfl⟩, fun b hb => ?_, q⟩
  have e : b = s1.heap.objs.size := by simpa using hb
  subst e
  exact I1.fpOk (Nat.le_refl _) (I1.hok.fresh (Nat.le_refl _))
/-- a range object just made, walked -/
theorem range_it {pins : List (Addr × Obj)} {σ : St} {H : Hp} {s : Shared} {R : It → Hp → Prop} {E : Value → Shared → Prop} {lo hi : Int} {t u v : Tok} {tk : Nat} (I : Inv X pins σ H s) (h1 : -(2 ^ 62) ≤ lo) (h2 : lo < 2 ^ 62) (h3 : -(2 ^ 62) ≤ hi) (h4 : hi < 2 ^ 62)
    (q : R (Itr lo (hi - lo).toNat) H) : wpAny (model X.prog X.w) X.A (pyIter (.ref s.heap.objs.size)) (PIE X pins σ tg R) E { s with heap := s.heap.push { cls := .type "range", data := .fields #[.int lo t, .int hi u, .int 1 v] }, toks := tk } := by
  refine wpAny_pyIter_range (IsRange.new ..) (small_one h1 h2 h3 h4) ?_
  have I1 : Inv X pins σ H { s with heap := s.heap.push { cls := .type "range", data := .fields #[.int lo t, .int hi u, .int 1 v] }, toks := tk } := I.kept fun b o e => Heap.get?_push_of_some _ e
  refine ⟨(s.heap.push { cls := .type "range", data := .fields #[.int lo t, .int hi u, .int 1 v] }).objs.size, [(s.heap.push { cls := .type "range", data := .fields #[.int lo t, .int hi u, .int 1 v] }).objs.size], _, _, H, rfl,
    I1.kept (t' := tk) fun b o e => Heap.get?_push_of_some _ e, turn_range _ lo (hi - lo).toNat, ?_, fun b hb => ?_, q⟩
  · have e1 : lo + ((0 : Nat) : Int) * 1 = lo := by simp
    have e2 : (((hi - lo).toNat : Nat) : Int) - ((0 : Nat) : Int) = Builtin.Range.rangeSize lo hi 1 := by rw [rangeSize_one]; split <;> omega
    show IsRangeIter _ _ (lo + ((0 : Nat) : Int) * 1) ((((hi - lo).toNat : Nat) : Int) - ((0 : Nat) : Int)) 1
    rw [e1, e2]
    exact Heap.get?_push_size _ rfl
  · have e : b = (s.heap.push { cls := .type "range", data := .fields #[.int lo t, .int hi u, .int 1 v] }).objs.size := by simpa using hb
    subst e
    exact I1.fpOk (Nat.le_refl _) (I1.hok.fresh (Nat.le_refl _))
def iRng1 (ta : TA) : TI := fun σ H R => ta σ H fun vs H1 => ∃ j : Int, vs = [.int j] ∧ -(2 ^ 62) ≤ j ∧ j < 2 ^ 62 ∧ R (Itr 0 j.toNat) H1
def iRng2 (ta : TA) : TI := fun σ H R => ta σ H fun vs H1 => ∃ i j : Int, vs = [.int i, .int j] ∧ (-(2 ^ 62) ≤ i ∧ i < 2 ^ 62 ∧ -(2 ^ 62) ≤ j ∧ j < 2 ^ 62) ∧ R (Itr i (j - i).toNat) H1
theorem pi_range1 {a : Expr} {ta : TA} {p pos : Pos} (hg : Gl X "range") (hm : X.mg "range" = none) (ha : PA X [a] ta) (hs : starEach [a] X.env = [(false, eval a X.env)] := by rfl) : PI X tg (.Call (.Name "range" p) [a] [] pos) (iRng1 ta) := by
  intro pins s σ H R I h
  refine Call_ (ld_blt I hg hm boot_range (PyProof.Rows.callWith_type1 (thn (ha pos pins s σ H _ I h) fun us s1 ⟨vs, H1, I1, r1, q1⟩ => ?_) hs rfl))
  obtain ⟨j, e, q1, q2, q⟩ := q1
  subst e
  cases r1 with
  | cons r rr =>
    cases rr
    obtain ⟨t, rfl⟩ := r
    exact call_range_1 (range_it I1 (by omega) (by omega) q1 q2 (by simpa using q))
theorem pi_range2 {a b : Expr} {ta : TA} {p pos : Pos} (hg : Gl X "range") (hm : X.mg "range" = none) (ha : PA X [a, b] ta) (hs : starEach [a, b] X.env = [(false, eval a X.env), (false, eval b X.env)] := by rfl) (hs2 : starEach [b] X.env = [(false, eval b X.env)] := by rfl) :
    PI X tg (.Call (.Name "range" p) [a, b] [] pos) (iRng2 ta) := by
  intro pins s σ H R I h
  refine Call_ (ld_blt I hg hm boot_range (PyProof.Rows.callWith_type1 (thn (ha pos pins s σ H _ I h) fun us s1 ⟨vs, H1, I1, r1, q1⟩ => ?_) (by rw [hs, hs2]) (by rw [hs2]; rfl)))
  obtain ⟨i, j, e, ⟨q1, q2, q3, q4⟩, q⟩ := q1
  subst e
  cases r1 with
  | cons r rr =>
    cases rr with
    | cons r' rr =>
      cases rr
      obtain ⟨t, rfl⟩ := r
      obtain ⟨t', rfl⟩ := r'
      exact call_range_2 (range_it I1 q1 q2 q3 q4 q)

/-! ### for -/
/-- W: the invariant by the turn and a measure; N: what the body is to reach -/
def tFor (wi : TI) (g : TG) (tb : TS) : TS := fun D σ H => wi σ H fun J H1 => ∃ W : Nat → Nat → St → Hp → Prop, (∃ m, W 0 m σ H1) ∧ ∀ i m σ H, W i m σ H →
  (J.stop i H ∧ D.nx σ H) ∨ (J.go i H ∧ ∃ N : St → Hp → Prop, (∀ σ' H', N σ' H' → ∃ m', m' < m ∧ W (i + 1) m' σ' H') ∧ ∀ x H', J.yld i H x H' → g x σ H' fun σ2 H2 => tb { D with nx := N, ct := N, bk := D.nx } σ2 H2)
/-- the records at fp as they stand -/
def pinsAt (fp : List Addr) (h : Heap) : List (Addr × Obj) := fp.filterMap fun b => (h.get? b).map fun o => (b, o)
theorem mem_pinsAt {fp : List Addr} {h : Heap} {b : Addr} {o : Obj} (hb : b ∈ fp) (e : h.get? b = some o) : (b, o) ∈ pinsAt fp h := List.mem_filterMap.mpr ⟨b, hb, by rw [e]; rfl⟩
theorem of_pinsAt {fp : List Addr} {h : Heap} {p : Addr × Obj} (hp : p ∈ pinsAt fp h) : p.1 ∈ fp ∧ h.get? p.1 = some p.2 := by
  obtain ⟨b, hb, e⟩ := List.mem_filterMap.mp hp
  cases q : h.get? b with
  | none => rw [q] at e; cases e
  | some o =>
    rw [q] at e
    have e' : (b, o) = p := Option.some.inj e
    subst e'
    exact ⟨hb, q⟩
theorem Inv.pinned {pins : List (Addr × Obj)} {σ : St} {H : Hp} {s : Shared} {fp : List Addr} (I : Inv X pins σ H s) (hf : ∀ b ∈ fp, FpOk X pins H b) (ho : ∀ b ∈ fp, ∃ o, s.heap.get? b = some o ∧ ∀ v, o.data ≠ .cell v) : Inv X (pins ++ pinsAt fp s.heap) σ H s :=
  I.pins_of fun p hp => (List.mem_append.mp hp).elim (fun z => I.pin p (List.mem_append_right _ z)) fun z => by
    obtain ⟨hb, e⟩ := of_pinsAt z
    obtain ⟨f0, f1, f2, _⟩ := hf p.1 hb
    obtain ⟨o, e', d⟩ := ho p.1 hb
    rw [e] at e'; cases e'
    exact ⟨e, f0, f1, f2, d⟩
theorem Inv.unpinned {pins pl : List (Addr × Obj)} {σ : St} {H : Hp} {s : Shared} (I : Inv X (pins ++ pl) σ H s) : Inv X pins σ H s := I.pins_of fun p hp => I.pin p (List.mem_append_right _ (List.mem_append_left _ hp))
theorem ps_for {iter : Expr} {body : List Stmt} {wi : TI} {g : TG} {tb : TS} {pos : Pos} (hp : PassesOwn (model X.prog X.w) X.A X.env X.xe) (hc : X.calm = true) (hi : PI X tg iter wi) (hg : PG X tg g) (hb : PSs X body tb)
    (hs : ∀ x, foldedSetIterable iter X.env x = pure x := by intro _; rfl) : PS X (.For tg iter body [] pos) (tFor wi g tb) := by
  intro pins s σ H D I h
  refine wpAny_For (thn (hi pins s σ H _ I h) fun v s1 h1 => thn h1 fun itv s2 h2 => ?_) hs
  obtain ⟨it, fp, tn, J, H2, e, I2, T, st2, f2, W, ⟨m0, w0⟩, turn⟩ := h2
  subst e
  -- what stays true of the iterator's objects through the loop
  have stat : ∀ {H' : Hp}, (∀ b ∈ fp, H' b = none) → ∀ b ∈ fp, FpOk X pins H' b := fun hn b hb => ⟨hn b hb, (f2 b hb).2⟩
  refine codeAny_forLoop_any (fun n s' => ∃ i σ' H', Inv X pins σ' H' s' ∧ tn i s'.heap ∧ (∀ b ∈ fp, H' b = none) ∧ W i n σ' H') ?_ m0 ⟨0, σ, H2, I2, st2, fun b hb => (f2 b hb).1, w0⟩
  rintro n s3 ⟨i, σ3, H3, I3, st3, fr3, w3⟩
  rcases turn i n σ3 H3 w3 with ⟨stop, qn⟩ | ⟨go, N, hN, step⟩
  · refine wpAny_passesOwn hp (thn (T.done X rfl rfl rfl hc i pins s3 σ3 H3 X.xe I3 (stat fr3) st3 stop) fun r s4 ⟨hr, I4⟩ => ?_)
    subst hr
    exact wpAny_execs_nil ⟨σ3, H3, I4, qn⟩
  · refine wpAny_passesOwn hp (thn (T.item X rfl rfl rfl hc i pins s3 σ3 H3 X.xe I3 (stat fr3) st3 go) fun r s4 ⟨u, hr, h4⟩ => ?_)
    subst hr
    refine wpAny_passesOwn hp (thn h4 fun _ s5 ⟨x, H5, I5, r5, y5, st5, fr5⟩ => ?_)
    have I5' := I5.pinned (stat fr5) (T.obj _ _ st5)
    refine wpAny_passesOwn hp (thn (hg _ s5 σ3 H5 x u _ I5' r5 (step x H5 y5)) fun _ s6 ⟨σ6, H6, I6, q6⟩ => ?_)
    refine wpAny_passesOwn hp (thn (hb _ s6 σ6 H6 _ I6 q6) fun f s7 q7 => ?_)
    have again : ∀ {σ7 : St} {H7 : Hp}, Inv X (pins ++ pinsAt fp s5.heap) σ7 H7 s7 → N σ7 H7 → ∃ m, m < n ∧ ∃ i σ' H', Inv X pins σ' H' s7 ∧ tn i s7.heap ∧ (∀ b ∈ fp, H' b = none) ∧ W i m σ' H' := fun {σ7 H7} I7 n7 => by
      obtain ⟨m', hm, w7⟩ := hN σ7 H7 n7
      refine ⟨m', hm, i + 1, σ7, H7, I7.unpinned, T.keep _ _ _ st5 fun b hb o e => (I7.pin (b, o) (List.mem_append_right _ (List.mem_append_right _ (mem_pinsAt hb e)))).1, fun b hb => ?_, w7⟩
      obtain ⟨o, e, d⟩ := T.obj _ _ st5 b hb
      exact (I7.pin (b, o) (List.mem_append_right _ (List.mem_append_right _ (mem_pinsAt hb e)))).2.1
    cases f with
    | next => obtain ⟨σ7, H7, I7, n7⟩ := q7; exact again I7 n7
    | cont => obtain ⟨σ7, H7, I7, n7⟩ := q7; exact again I7 n7
    | brk => obtain ⟨σ7, H7, I7, q7⟩ := q7; exact ⟨σ7, H7, I7.unpinned, q7⟩
    | ret v => obtain ⟨x7, σ7, H7, I7, r7, q7⟩ := q7; exact ⟨x7, σ7, H7, I7.unpinned, r7, q7⟩
end

/-! ### the forms one uses -/
/-- over a list that the body leaves as it is -/
theorem for_list {K : PySem.W.Frag} {a : Addr} {xs : List V} {g : TG} {tb : TS} {D : Ends} {σ : St} {H : Hp} (Pv : Nat → St → Hp → Prop) (h0 : Pv 0 σ H) (hl : ∀ i σ H, i ≤ xs.length → Pv i σ H → SqL K H a xs)
    (hs : ∀ i x σ H, xs[i]? = some x → Pv i σ H → g x σ H fun σ2 H2 => tb { D with nx := Pv (i + 1), ct := Pv (i + 1), bk := D.nx } σ2 H2) (hd : ∀ σ H, Pv xs.length σ H → D.nx σ H) :
    ∃ W : Nat → Nat → St → Hp → Prop, (∃ m, W 0 m σ H) ∧ ∀ i m σ H, W i m σ H →
      ((Itl K a).stop i H ∧ D.nx σ H) ∨ ((Itl K a).go i H ∧ ∃ N : St → Hp → Prop, (∀ σ' H', N σ' H' → ∃ m', m' < m ∧ W (i + 1) m' σ' H') ∧ ∀ x H', (Itl K a).yld i H x H' → g x σ H' fun σ2 H2 => tb { D with nx := N, ct := N, bk := D.nx } σ2 H2) := by
  refine ⟨fun i m σ H => m = xs.length - i ∧ i ≤ xs.length ∧ Pv i σ H, ⟨xs.length, by simp, Nat.zero_le _, h0⟩, ?_⟩
  rintro i m σ H ⟨rfl, hi, p⟩
  have q := hl i σ H hi p
  by_cases hlt : i < xs.length
  · refine .inr ⟨⟨xs, xs[i], q, by simp [hlt]⟩, Pv (i + 1), fun σ' H' p' => ⟨xs.length - (i + 1), by omega, rfl, hlt, p'⟩, fun x H' y => ?_⟩
    obtain ⟨e, y⟩ := y
    subst e
    exact hs i x σ _ (y xs q) p
  · have e : i = xs.length := by omega
    subst e
    exact .inl ⟨⟨xs, q, Nat.le_refl _⟩, hd σ H p⟩
theorem for_tup {K : PySem.W.Frag} {a : Addr} {xs : List V} {g : TG} {tb : TS} {D : Ends} {σ : St} {H : Hp} (Pv : Nat → St → Hp → Prop) (h0 : Pv 0 σ H) (hl : ∀ i σ H, i ≤ xs.length → Pv i σ H → SqT K H a xs)
    (hs : ∀ i x σ H, xs[i]? = some x → Pv i σ H → g x σ H fun σ2 H2 => tb { D with nx := Pv (i + 1), ct := Pv (i + 1), bk := D.nx } σ2 H2) (hd : ∀ σ H, Pv xs.length σ H → D.nx σ H) :
    ∃ W : Nat → Nat → St → Hp → Prop, (∃ m, W 0 m σ H) ∧ ∀ i m σ H, W i m σ H →
      ((Itt K a).stop i H ∧ D.nx σ H) ∨ ((Itt K a).go i H ∧ ∃ N : St → Hp → Prop, (∀ σ' H', N σ' H' → ∃ m', m' < m ∧ W (i + 1) m' σ' H') ∧ ∀ x H', (Itt K a).yld i H x H' → g x σ H' fun σ2 H2 => tb { D with nx := N, ct := N, bk := D.nx } σ2 H2) := by
  refine ⟨fun i m σ H => m = xs.length - i ∧ i ≤ xs.length ∧ Pv i σ H, ⟨xs.length, by simp, Nat.zero_le _, h0⟩, ?_⟩
  rintro i m σ H ⟨rfl, hi, p⟩
  have q := hl i σ H hi p
  by_cases hlt : i < xs.length
  · refine .inr ⟨⟨xs, xs[i], q, by simp [hlt]⟩, Pv (i + 1), fun σ' H' p' => ⟨xs.length - (i + 1), by omega, rfl, hlt, p'⟩, fun x H' y => ?_⟩
    obtain ⟨e, y⟩ := y
    subst e
    exact hs i x σ _ (y xs q) p
  · have e : i = xs.length := by omega
    subst e
    exact .inl ⟨⟨xs, q, Nat.le_refl _⟩, hd σ H p⟩
theorem for_range {lo : Int} {n : Nat} {g : TG} {tb : TS} {D : Ends} {σ : St} {H : Hp} (Pv : Nat → St → Hp → Prop) (h0 : Pv 0 σ H)
    (hs : ∀ i σ H, i < n → Pv i σ H → g (.int (lo + i)) σ H fun σ2 H2 => tb { D with nx := Pv (i + 1), ct := Pv (i + 1), bk := D.nx } σ2 H2) (hd : ∀ σ H, Pv n σ H → D.nx σ H) :
    ∃ W : Nat → Nat → St → Hp → Prop, (∃ m, W 0 m σ H) ∧ ∀ i m σ H, W i m σ H →
      ((Itr lo n).stop i H ∧ D.nx σ H) ∨ ((Itr lo n).go i H ∧ ∃ N : St → Hp → Prop, (∀ σ' H', N σ' H' → ∃ m', m' < m ∧ W (i + 1) m' σ' H') ∧ ∀ x H', (Itr lo n).yld i H x H' → g x σ H' fun σ2 H2 => tb { D with nx := N, ct := N, bk := D.nx } σ2 H2) := by
  refine ⟨fun i m σ H => m = n - i ∧ i ≤ n ∧ Pv i σ H, ⟨n, by simp, Nat.zero_le _, h0⟩, ?_⟩
  rintro i m σ H ⟨rfl, hi, p⟩
  by_cases hlt : i < n
  · refine .inr ⟨hlt, Pv (i + 1), fun σ' H' p' => ⟨n - (i + 1), by omega, rfl, hlt, p'⟩, fun x H' y => ?_⟩
    obtain ⟨e, y⟩ := y
    subst e y
    exact hs i σ _ hlt p
  · have e : i = n := by omega
    subst e
    exact .inl ⟨Nat.le_refl _, hd σ H p⟩
/-- while, by a word and a measure of the state -/
theorem while_by {c : TT} {tb : TS} {D : Ends} {σ : St} {H : Hp} (Pv : St → Hp → Prop) (μ : St → Hp → Nat) (h0 : Pv σ H)
    (hs : ∀ σ H, Pv σ H → c σ H fun b H1 => if b = true then tb { D with nx := fun σ' H' => Pv σ' H' ∧ μ σ' H' < μ σ H, ct := fun σ' H' => Pv σ' H' ∧ μ σ' H' < μ σ H, bk := D.nx } σ H1 else D.nx σ H1)
    (mono : ∀ σ H Q Q', (∀ b H1, Q b H1 → Q' b H1) → c σ H Q → c σ H Q') : tWhile c tb D σ H := by
  refine ⟨fun m σ H => m = μ σ H ∧ Pv σ H, ⟨_, rfl, h0⟩, ?_⟩
  rintro m σ H ⟨rfl, p⟩
  refine mono σ H _ _ (fun b H1 q => ?_) (hs σ H p)
  cases b with
  | true => exact ⟨_, fun σ' H' ⟨p', l⟩ => ⟨_, l, rfl, p'⟩, q⟩
  | false => exact q
end L2

namespace L2
open PySem PySem.Spec PyProof.Rows

abbrev R2 := V → V → Hp → VK → Prop
/-- a two-place operation on values: f is binaryOp op, inplaceOp op or compareOp op -/
def OpR (X : Cx) (f : Value → Value → Sem Value) (r : R2) : Prop :=
  ∀ (pins : List (Addr × Obj)) (s : Shared) (σ : St) (H : Hp) (x y : V) (v u : Value) (Q : VK), Inv X pins σ H s → RelV x v → RelV y u → r x y H Q →
    wpAny (model X.prog X.w) X.A (f v u) (EP X pins σ Q) X.xe s
/-- a one-place operation -/
def UnR (X : Cx) (f : Value → Sem Value) (r : V → Hp → VK → Prop) : Prop :=
  ∀ (pins : List (Addr × Obj)) (s : Shared) (σ : St) (H : Hp) (x : V) (v : Value) (Q : VK), Inv X pins σ H s → RelV x v → r x H Q →
    wpAny (model X.prog X.w) X.A (f v) (EP X pins σ Q) X.xe s
/-- a call of a value that is known (a builtin, a type) with values -/
def CallR (X : Cx) (f : Value) (r : List V → Hp → VK → Prop) : Prop :=
  ∀ (pins : List (Addr × Obj)) (s : Shared) (σ : St) (H : Hp) (xs : List V) (us : List Value) (Q : VK), Inv X pins σ H s → Vals xs us → r xs H Q →
    wpAny (model X.prog X.w) X.A (call f us) (EP X pins σ Q) X.xe s
/-- a value's truth -/
def TruR (X : Cx) (r : V → Hp → (Bool → Hp → Prop) → Prop) : Prop :=
  ∀ (pins : List (Addr × Obj)) (s : Shared) (σ : St) (H : Hp) (x : V) (v : Value) (Q : Bool → Hp → Prop), Inv X pins σ H s → RelV x v → r x H Q →
    wpAny (model X.prog X.w) X.A (truthy v) (TP X pins σ Q) X.xe s

def tOp (r : R2) (ta tb : TE) : TE := fun σ H Q => ta σ H fun x H1 => tb σ H1 fun y H2 => r x y H2 Q
def tUn (r : V → Hp → VK → Prop) (ta : TE) : TE := fun σ H Q => ta σ H fun x H1 => r x H1 Q
/-- ints in, under C, and a value out -/
def rI (C : Int → Int → Prop) (g : Int → Int → V) : R2 := fun x y H Q => ∃ i j, x = .int i ∧ y = .int j ∧ C i j ∧ Q (g i j) H
def rI0 (g : Int → Int → V) : R2 := fun x y H Q => ∃ i j, x = .int i ∧ y = .int j ∧ Q (g i j) H
def rU (g : Int → V) : V → Hp → VK → Prop := fun x H Q => ∃ i, x = .int i ∧ Q (g i) H

section
variable {X : Cx} {a b c : Expr} {ta tb tc : TE} {pos : Pos}

theorem binT (ha : PE X a ta) (hb : PE X b tb) {pins : List (Addr × Obj)} {s : Shared} {σ : St} {H : Hp} {R : V → V → Hp → Prop} (I : Inv X pins σ H s)
    (h : ta σ H fun x H1 => tb σ H1 fun y H2 => R x y H2) {Q : Value → Shared → Prop} {f : Value → Value → Sem Value}
    (hf : ∀ v u s2 x y H2, Inv X pins σ H2 s2 → RelV x v → RelV y u → R x y H2 → wpAny (model X.prog X.w) X.A (f v u) Q X.xe s2) :
    wpAny (model X.prog X.w) X.A (eval a X.env) (fun v s₁ => wpAny (model X.prog X.w) X.A (eval b X.env) (fun u s₂ => wpAny (model X.prog X.w) X.A (f v u) Q X.xe s₂) X.xe s₁) X.xe s := by
  refine thn (ha pins s σ H _ I h) fun v s1 ⟨x, H1, I1, r1, q1⟩ => ?_
  refine thn (hb pins s1 σ H1 _ I1 q1) fun u s2 ⟨y, H2, I2, r2, q2⟩ => ?_
  exact hf v u s2 x y H2 I2 r1 r2 q2

theorem pe_op {op : Operator} {r : R2} (ho : OpR X (binaryOp op) r) (ha : PE X a ta) (hb : PE X b tb) : PE X (.BinOp a op b pos) (tOp r ta tb) := by
  intro pins s σ H Q I h
  exact wpAny_BinOp (binT ha hb I h fun v u s2 x y H2 I2 rx ry q => ho pins s2 σ H2 x y v u Q I2 rx ry q)
theorem pe_un {op : UnaryOp} {r : V → Hp → VK → Prop} (ho : UnR X (unaryOp op) r) (ha : PE X a ta) : PE X (.UnaryOp op a pos) (tUn r ta) := by
  intro pins s σ H Q I h
  exact UnaryOp_ (thn (ha pins s σ H _ I h) fun v s1 ⟨x, H1, I1, r1, q1⟩ => ho pins s1 σ H1 x v Q I1 r1 q1)
/-- a op= e at a name: the name's slot i -/
theorem augR {op : Operator} {r : R2} (ho : OpR X (inplaceOp op) r) {pins : List (Addr × Obj)} {s : Shared} {σ : St} {H : Hp} {x y : V} {v u : Value} {Q : VK} (I : Inv X pins σ H s)
    (rx : RelV x v) (ry : RelV y u) (q : r x y H Q) : wpAny (model X.prog X.w) X.A (inplaceOp op v u) (EP X pins σ Q) X.xe s := ho pins s σ H x y v u Q I rx ry q

/-! ### ints -/
theorem opI {f : Value → Value → Sem Value} {C : Int → Int → Prop} {g : Int → Int → Int}
    (rule : ∀ (i j : Int) (t u : Tok) (s : Shared) (Q : Value → Shared → Prop) (E : Value → Shared → Prop), C i j → Q (.int (g i j) s.toks) { s with toks := s.toks + 1 } → wpAny (model X.prog X.w) X.A (f (.int i t) (.int j u)) Q E s) :
    OpR X f (rI C fun i j => .int (g i j)) := by
  intro pins s σ H x y v u Q I rx ry h
  obtain ⟨i, j, rfl, rfl, hc, q⟩ := h
  obtain ⟨t, rfl⟩ := rx
  obtain ⟨t', rfl⟩ := ry
  exact rule i j t t' s _ _ hc ⟨.int (g i j), H, I.tok _, ⟨_, rfl⟩, q⟩
theorem opI0 {f : Value → Value → Sem Value} {g : Int → Int → Int}
    (rule : ∀ (i j : Int) (t u : Tok) (s : Shared) (Q : Value → Shared → Prop) (E : Value → Shared → Prop), Q (.int (g i j) s.toks) { s with toks := s.toks + 1 } → wpAny (model X.prog X.w) X.A (f (.int i t) (.int j u)) Q E s) :
    OpR X f (rI0 fun i j => .int (g i j)) := by
  intro pins s σ H x y v u Q I rx ry h
  obtain ⟨i, j, rfl, rfl, q⟩ := h
  obtain ⟨t, rfl⟩ := rx
  obtain ⟨t', rfl⟩ := ry
  exact rule i j t t' s _ _ ⟨.int (g i j), H, I.tok _, ⟨_, rfl⟩, q⟩
theorem opB0 {f : Value → Value → Sem Value} {g : Int → Int → Bool}
    (rule : ∀ (i j : Int) (t u : Tok) (s : Shared) (Q : Value → Shared → Prop) (E : Value → Shared → Prop), Q (.bool (g i j)) s → wpAny (model X.prog X.w) X.A (f (.int i t) (.int j u)) Q E s) :
    OpR X f (rI0 fun i j => .bl (g i j)) := by
  intro pins s σ H x y v u Q I rx ry h
  obtain ⟨i, j, rfl, rfl, q⟩ := h
  obtain ⟨t, rfl⟩ := rx
  obtain ⟨t', rfl⟩ := ry
  exact rule i j t t' s _ _ ⟨.bl (g i j), H, I, rfl, q⟩

def CDiv (i j : Int) : Prop := 0 < j ∧ j < 1073741824
def CDivN (i j : Int) : Prop := j ≠ 0 ∧ j.natAbs < 1073741824
def CPow (i j : Int) : Prop := 0 ≤ j ∧ j ≤ 1000000 ∧ i.natAbs < 2 ^ 64
def CMul (i j : Int) : Prop := (-(2 ^ 64) < i ∧ i < 2 ^ 64) ∨ (-(2 ^ 64) < j ∧ j < 2 ^ 64)
theorem CMul.ok {i j : Int} (h : CMul i j) : IntMulOk i j := by
  rcases h with ⟨h1, h2⟩ | ⟨h1, h2⟩
  · exact .of_left (intBits_le_64 h1 h2)
  · exact .of_right (intBits_le_64 h1 h2)
theorem two_pow_nn (k : Nat) : (0 : Int) ≤ 2 ^ k := by
  rw [two_pow_cast]
  exact Int.natCast_nonneg _

theorem op_add : OpR X (binaryOp .Add) (rI0 fun i j => .int (i + j)) := opI0 fun _ _ _ _ _ _ _ q => add_int q
theorem op_sub : OpR X (binaryOp .Sub) (rI0 fun i j => .int (i - j)) := opI0 fun _ _ _ _ _ _ _ q => sub_int q
theorem op_mul : OpR X (binaryOp .Mult) (rI CMul fun i j => .int (i * j)) := opI fun _ _ _ _ _ _ _ hc q => mul_int q hc.ok
/-- // by a positive divisor -/
theorem op_fdiv : OpR X (binaryOp .FloorDiv) (rI CDiv fun i j => .int (i / j)) := opI fun i j _ _ _ _ _ hc q => by
  have h1 : (0 : Int) < j := hc.1
  have h2 : j < 1073741824 := hc.2
  exact floordiv_int (by omega) (by rw [Int.fdiv_eq_ediv_of_nonneg i (by omega)]; exact q) (.inl (PyProof.noPylong_small (by omega)))
theorem op_fdivN : OpR X (binaryOp .FloorDiv) (rI CDivN fun i j => .int (i.fdiv j)) := opI fun _ _ _ _ _ _ _ hc q => floordiv_int hc.1 q (.inl (PyProof.noPylong_small hc.2))
/-- % by a positive divisor of any size -/
theorem op_mod : OpR X (binaryOp .Mod) (rI (fun _ j => 0 < j) fun i j => .int (i % j)) := opI fun i j _ _ _ _ _ hc q => by
  have h1 : (0 : Int) < j := hc
  exact mod_int' (by omega) (by rw [Int.fmod_eq_emod_of_nonneg i (by omega)]; exact q)
theorem op_modN : OpR X (binaryOp .Mod) (rI (fun _ j => j ≠ 0) fun i j => .int (i.fmod j)) := opI fun _ _ _ _ _ _ _ hc q => mod_int' hc q
theorem op_pow : OpR X (binaryOp .Pow) (rI CPow fun i j => .int (i ^ j.toNat)) := opI fun _ _ _ _ _ _ _ hc q => pow_int_small hc.1 hc.2.1 hc.2.2 q
theorem op_shl : OpR X (binaryOp .LShift) (rI CPow fun i j => .int (i * 2 ^ j.toNat)) := opI fun _ _ _ _ _ _ _ hc q => lshift_int_small hc.1 hc.2.1 hc.2.2 q
theorem op_shr : OpR X (binaryOp .RShift) (rI (fun _ j => 0 ≤ j) fun i j => .int (i / 2 ^ j.toNat)) := opI fun i j _ _ _ _ _ hc q =>
  rshift_int hc (by rw [Int.fdiv_eq_ediv_of_nonneg i (two_pow_nn _)]; exact q)
theorem op_and : OpR X (binaryOp .BitAnd) (rI0 fun i j => .int (Builtin.bitAnd i j)) := opI0 fun _ _ _ _ _ _ _ q => and_int q
theorem op_or : OpR X (binaryOp .BitOr) (rI0 fun i j => .int (Builtin.bitOr i j)) := opI0 fun _ _ _ _ _ _ _ q => or_int q
theorem op_xor : OpR X (binaryOp .BitXor) (rI0 fun i j => .int (Builtin.bitXor i j)) := opI0 fun _ _ _ _ _ _ _ q => xor_int q

theorem iop_add : OpR X (inplaceOp .Add) (rI0 fun i j => .int (i + j)) := opI0 fun _ _ _ _ _ _ _ q => iadd_int q
theorem iop_sub : OpR X (inplaceOp .Sub) (rI0 fun i j => .int (i - j)) := opI0 fun _ _ _ _ _ _ _ q => isub_int q
theorem iop_mul : OpR X (inplaceOp .Mult) (rI CMul fun i j => .int (i * j)) := opI fun _ _ _ _ _ _ _ hc q => imul_int q hc.ok
theorem iop_fdiv : OpR X (inplaceOp .FloorDiv) (rI CDiv fun i j => .int (i / j)) := opI fun i j _ _ _ _ _ hc q => by
  have h1 : (0 : Int) < j := hc.1
  have h2 : j < 1073741824 := hc.2
  exact ifloordiv_int (by omega) (by rw [Int.fdiv_eq_ediv_of_nonneg i (by omega)]; exact q) (.inl (PyProof.noPylong_small (by omega)))
theorem iop_mod : OpR X (inplaceOp .Mod) (rI (fun _ j => 0 < j) fun i j => .int (i % j)) := opI fun i j _ _ _ _ _ hc q => by
  have h1 : (0 : Int) < j := hc
  exact imod_int (by omega) (by rw [Int.fmod_eq_emod_of_nonneg i (by omega)]; exact q)
theorem iop_shl : OpR X (inplaceOp .LShift) (rI CPow fun i j => .int (i * 2 ^ j.toNat)) := opI fun _ _ _ _ _ _ _ hc q => ilshift_int_small hc.1 hc.2.1 hc.2.2 q
theorem iop_shr : OpR X (inplaceOp .RShift) (rI (fun _ j => 0 ≤ j) fun i j => .int (i / 2 ^ j.toNat)) := opI fun i j _ _ _ _ _ hc q =>
  irshift_int hc (by rw [Int.fdiv_eq_ediv_of_nonneg i (two_pow_nn _)]; exact q)
theorem iop_and : OpR X (inplaceOp .BitAnd) (rI0 fun i j => .int (Builtin.bitAnd i j)) := opI0 fun _ _ _ _ _ _ _ q => iand_int q
theorem iop_or : OpR X (inplaceOp .BitOr) (rI0 fun i j => .int (Builtin.bitOr i j)) := opI0 fun _ _ _ _ _ _ _ q => ior_int q
theorem iop_xor : OpR X (inplaceOp .BitXor) (rI0 fun i j => .int (Builtin.bitXor i j)) := opI0 fun _ _ _ _ _ _ _ q => ixor_int q

theorem unI {f : Value → Sem Value} {g : Int → Int}
    (rule : ∀ (i : Int) (t : Tok) (s : Shared) (Q : Value → Shared → Prop) (E : Value → Shared → Prop), Q (.int (g i) s.toks) { s with toks := s.toks + 1 } → wpAny (model X.prog X.w) X.A (f (.int i t)) Q E s) :
    UnR X f (rU fun i => .int (g i)) := by
  intro pins s σ H x v Q I rx h
  obtain ⟨i, rfl, q⟩ := h
  obtain ⟨t, rfl⟩ := rx
  exact rule i t s _ _ ⟨.int (g i), H, I.tok _, ⟨_, rfl⟩, q⟩
theorem un_neg : UnR X (unaryOp .USub) (rU fun i => .int (-i)) := unI fun _ _ _ _ _ q => neg_int q
theorem un_inv : UnR X (unaryOp .Invert) (rU fun i => .int (Builtin.bitNot i)) := unI fun _ _ _ _ _ q => invert_int q

/-! ### bools among ints: n += (a < b) -/
theorem op_add_ib : OpR X (binaryOp .Add) (fun x y H Q => ∃ i k, x = .int i ∧ y = .bl k ∧ Q (.int (i + b2i k)) H) := by
  intro pins s σ H x y v u Q I rx ry h
  obtain ⟨i, k, rfl, rfl, q⟩ := h
  obtain ⟨t, rfl⟩ := rx
  cases ry
  exact add_int_bool ⟨.int (i + b2i k), H, I.tok _, ⟨_, rfl⟩, q⟩
end

/-! ### comparisons -/
/-- the scalars that == tells apart as data does -/
def scal : V → V → Bool
  | .non, .non => true | .non, .int _ => true | .int _, .non => true | .non, .bl _ => true | .bl _, .non => true | .non, .str _ => true | .str _, .non => true
  | .int _, .int _ => true | .bl _, .bl _ => true | .str _, .str _ => true | .byt _, .byt _ => true
  | .int _, .str _ => true | .str _, .int _ => true | .bl _, .str _ => true | .str _, .bl _ => true
  | _, _ => false
def rEq : R2 := fun x y H Q => scal x y = true ∧ Q (.bl (decide (x = y))) H
def rNe : R2 := fun x y H Q => scal x y = true ∧ Q (.bl (!decide (x = y))) H

theorem dec_int {i j : Int} : decide (V.int i = V.int j) = (i == j) := by
  rw [Bool.eq_iff_iff]
  simp
theorem dec_bl {i j : Bool} : decide (V.bl i = V.bl j) = (i == j) := by
  rw [Bool.eq_iff_iff]
  simp
theorem dec_str {i j : Str} : decide (V.str i = V.str j) = (i == j) := by
  rw [Bool.eq_iff_iff]
  simp
theorem dec_byt {i j : Array UInt8} : decide (V.byt i = V.byt j) = (i.toList == j.toList) := by
  rw [Bool.eq_iff_iff]
  cases i
  cases j
  simp

section
variable {X : Cx} {a b c : Expr} {ta tb tc : TE} {pos : Pos}
theorem fin_bl {pins : List (Addr × Obj)} {σ : St} {H : Hp} {s : Shared} {Q : VK} {k k' : Bool} (I : Inv X pins σ H s) (q : Q (.bl k) H) (e : k = k') : EP X pins σ Q (.bool k') s := by
  subst e
  exact ⟨.bl k, H, I, rfl, q⟩
theorem op_eq : OpR X (compareOp .Eq) rEq := by
  intro pins s σ H x y v u Q I rx ry h
  obtain ⟨hs, q⟩ := h
  cases x with
  | non =>
    cases rx
    cases y with
    | non => cases ry; exact PySem.EqNone.eq_none_none (fin_bl I q (by simp))
    | bl j => cases ry; exact PySem.EqNone.eq_none_bool (fin_bl I q (by simp))
    | int j => obtain ⟨t', rfl⟩ := ry; exact PySem.EqNone.eq_none_int (fin_bl I q (by simp))
    | str j => obtain ⟨t', rfl⟩ := ry; exact PySem.EqNone.eq_none_str (fin_bl I q (by simp))
    | _ => exact absurd (show false = true from hs) Bool.false_ne_true
  | bl i =>
    cases rx
    cases y with
    | non => cases ry; exact PySem.EqNone.eq_bool_none (fin_bl I q (by simp))
    | bl j => cases ry; exact eq_bool (fin_bl I q dec_bl)
    | str j => obtain ⟨t', rfl⟩ := ry; exact PySem.EqMixed.eq_bool_str (fin_bl I q (by simp))
    | _ => exact absurd (show false = true from hs) Bool.false_ne_true
  | int i =>
    obtain ⟨t, rfl⟩ := rx
    cases y with
    | non => cases ry; exact PySem.EqNone.eq_int_none (fin_bl I q (by simp))
    | int j => obtain ⟨t', rfl⟩ := ry; exact eq_int (fin_bl I q dec_int)
    | str j => obtain ⟨t', rfl⟩ := ry; exact PySem.EqMixed.eq_int_str (fin_bl I q (by simp))
    | _ => exact absurd (show false = true from hs) Bool.false_ne_true
  | str i =>
    obtain ⟨t, rfl⟩ := rx
    cases y with
    | non => cases ry; exact PySem.EqNone.eq_str_none (fin_bl I q (by simp))
    | bl j => cases ry; exact PySem.EqMixed.eq_str_bool (fin_bl I q (by simp))
    | int j => obtain ⟨t', rfl⟩ := ry; exact PySem.EqMixed.eq_str_int (fin_bl I q (by simp))
    | str j => obtain ⟨t', rfl⟩ := ry; exact eq_str (fin_bl I q dec_str)
    | _ => exact absurd (show false = true from hs) Bool.false_ne_true
  | byt i =>
    obtain ⟨t, rfl⟩ := rx
    cases y with
    | byt j => obtain ⟨t', rfl⟩ := ry; exact PySem.W.eq_bytes (fin_bl I q dec_byt)
    | _ => exact absurd (show false = true from hs) Bool.false_ne_true
  | _ => cases y <;> exact absurd (show false = true from hs) Bool.false_ne_true
theorem op_ne : OpR X (compareOp .NotEq) rNe := by
  intro pins s σ H x y v u Q I rx ry h
  obtain ⟨hs, q⟩ := h
  cases x with
  | non =>
    cases rx
    cases y with
    | non => cases ry; exact PySem.EqNone.ne_none_none (fin_bl I q (by simp))
    | bl j => cases ry; exact PySem.EqNone.ne_none_bool (fin_bl I q (by simp))
    | int j => obtain ⟨t', rfl⟩ := ry; exact PySem.EqNone.ne_none_int (fin_bl I q (by simp))
    | str j => obtain ⟨t', rfl⟩ := ry; exact PySem.EqNone.ne_none_str (fin_bl I q (by simp))
    | _ => exact absurd (show false = true from hs) Bool.false_ne_true
  | bl i =>
    cases rx
    cases y with
    | non => cases ry; exact PySem.EqNone.ne_bool_none (fin_bl I q (by simp))
    | bl j => cases ry; exact ne_bool (fin_bl I q (congrArg not dec_bl))
    | str j => obtain ⟨t', rfl⟩ := ry; exact PySem.EqMixed.ne_bool_str (fin_bl I q (by simp))
    | _ => exact absurd (show false = true from hs) Bool.false_ne_true
  | int i =>
    obtain ⟨t, rfl⟩ := rx
    cases y with
    | non => cases ry; exact PySem.EqNone.ne_int_none (fin_bl I q (by simp))
    | int j => obtain ⟨t', rfl⟩ := ry; exact ne_int (fin_bl I q (congrArg not dec_int))
    | str j => obtain ⟨t', rfl⟩ := ry; exact PySem.EqMixed.ne_int_str (fin_bl I q (by simp))
    | _ => exact absurd (show false = true from hs) Bool.false_ne_true
  | str i =>
    obtain ⟨t, rfl⟩ := rx
    cases y with
    | non => cases ry; exact PySem.EqNone.ne_str_none (fin_bl I q (by simp))
    | bl j => cases ry; exact PySem.EqMixed.ne_str_bool (fin_bl I q (by simp))
    | int j => obtain ⟨t', rfl⟩ := ry; exact PySem.EqMixed.ne_str_int (fin_bl I q (by simp))
    | str j => obtain ⟨t', rfl⟩ := ry; exact ne_str (fin_bl I q (congrArg not dec_str))
    | _ => exact absurd (show false = true from hs) Bool.false_ne_true
  | byt i =>
    obtain ⟨t, rfl⟩ := rx
    cases y with
    | byt j => obtain ⟨t', rfl⟩ := ry; exact PySem.W.ne_bytes (fin_bl I q (congrArg not dec_byt))
    | _ => exact absurd (show false = true from hs) Bool.false_ne_true
  | _ => cases y <;> exact absurd (show false = true from hs) Bool.false_ne_true

theorem op_lt : OpR X (compareOp .Lt) (rI0 fun i j => .bl (decide (i < j))) := opB0 fun _ _ _ _ _ _ _ q => lt_int q
theorem op_le : OpR X (compareOp .LtE) (rI0 fun i j => .bl (decide (i ≤ j))) := opB0 fun _ _ _ _ _ _ _ q => le_int q
theorem op_gt : OpR X (compareOp .Gt) (rI0 fun i j => .bl (decide (j < i))) := opB0 fun _ _ _ _ _ _ _ q => gt_int q
theorem op_ge : OpR X (compareOp .GtE) (rI0 fun i j => .bl (decide (j ≤ i))) := opB0 fun _ _ _ _ _ _ _ q => ge_int q
theorem op_lt_str : OpR X (compareOp .Lt) (fun x y H Q => ∃ i j, x = .str i ∧ y = .str j ∧ Q (.bl (decide (i.cps.toList < j.cps.toList))) H) := by
  intro pins s σ H x y v u Q I rx ry h
  obtain ⟨i, j, rfl, rfl, q⟩ := h
  obtain ⟨t, rfl⟩ := rx
  obtain ⟨t', rfl⟩ := ry
  exact lt_str (fin_bl I q rfl)
/-- the one string within the other -/
theorem op_in_str : OpR X (compareOp .In) (fun x y H Q => ∃ i j, x = .str i ∧ y = .str j ∧ Q (.bl (!(Builtin.Str.occurrences j i 0 j.length 1).isEmpty)) H) := by
  intro pins s σ H x y v u Q I rx ry h
  obtain ⟨i, j, rfl, rfl, q⟩ := h
  obtain ⟨t, rfl⟩ := rx
  obtain ⟨t', rfl⟩ := ry
  exact in_str (fin_bl I q rfl)

/-- is None, is not None: the right side a value none -/
theorem op_isN : OpR X (compareOp .Is) (fun x y H Q => y = .non ∧ Q (.bl (decide (x = .non))) H) := by
  intro pins s σ H x y v u Q I rx ry h
  obtain ⟨rfl, q⟩ := h
  cases ry
  refine is_none_gen (fin_bl I q ?_)
  cases x <;> first
    | (cases rx; rfl)
    | (obtain ⟨t, rfl⟩ := rx; rfl)
theorem op_notN : OpR X (compareOp .IsNot) (fun x y H Q => y = .non ∧ Q (.bl (!decide (x = .non))) H) := by
  intro pins s σ H x y v u Q I rx ry h
  obtain ⟨rfl, q⟩ := h
  cases ry
  refine isnot_none_gen (fin_bl I q ?_)
  cases x <;> first
    | (cases rx; rfl)
    | (obtain ⟨t, rfl⟩ := rx; rfl)

theorem op_notin_str : OpR X (compareOp .NotIn) (fun x y H Q => ∃ i j, x = .str i ∧ y = .str j ∧ Q (.bl (!(!(Builtin.Str.occurrences j i 0 j.length 1).isEmpty))) H) := by
  intro pins s σ H x y v u Q I rx ry h
  obtain ⟨i, j, rfl, rfl, q⟩ := h
  obtain ⟨t, rfl⟩ := rx
  obtain ⟨t', rfl⟩ := ry
  exact notIn_str (fin_bl I q rfl)
/-- is, is not of two objects that are tracked lists or instances -/
def isObj : HO → Bool
  | .lst _ => true
  | .ins _ _ _ => true
  | _ => false
theorem obj_there {pins : List (Addr × Obj)} {s : Shared} {σ : St} {H : Hp} {a : Addr} {o : HO} (I : Inv X pins σ H s) (h : H a = some o) (p : isObj o = true) : ∃ ob, s.heap.get? a = some ob ∧ ob.cls ≠ .type "tuple" := by
  cases o with
  | lst xs =>
    obtain ⟨_, its, n, _, e⟩ : xs.length ≤ sizeLine ∧ ∃ (its : List Value) (n : Nat), Vals xs its ∧ s.heap.get? a = some { cls := .type "list", data := .seq its.toArray n } := I.hok a _ h
    exact ⟨_, e, (by show Value.type "list" ≠ .type "tuple"; decide +kernel)⟩
  | ins C dx fs =>
    have x := I.hok a _ h
    obtain ⟨_, _, _, e, _⟩ := x
    exact ⟨_, e, (by show Value.ref C ≠ .type "tuple"; exact fun z => by cases z)⟩
  | _ => exact absurd (show false = true from p) Bool.false_ne_true
theorem op_is_ref : OpR X (compareOp .Is) (fun x y H Q => ∃ a b oa ob, x = .ref a ∧ y = .ref b ∧ H a = some oa ∧ isObj oa = true ∧ H b = some ob ∧ isObj ob = true ∧ Q (.bl (decide (a = b))) H) := by
  intro pins s σ H x y v u Q I rx ry h
  obtain ⟨a, b, oa, ob, rfl, rfl, ha, pa, hb, pb, q⟩ := h
  cases rx
  cases ry
  obtain ⟨o1, e1, n1⟩ := obj_there I ha pa
  obtain ⟨o2, e2, _⟩ := obj_there I hb pb
  by_cases z : a = b
  · subst z
    exact wpAny_is_ref_self (fin_bl I q (by simp))
  · exact wpAny_is_ref_other z e1 e2 n1 (fin_bl I q (by simp [z]))
theorem op_isnot_ref : OpR X (compareOp .IsNot) (fun x y H Q => ∃ a b oa ob, x = .ref a ∧ y = .ref b ∧ H a = some oa ∧ isObj oa = true ∧ H b = some ob ∧ isObj ob = true ∧ Q (.bl (!decide (a = b))) H) := by
  intro pins s σ H x y v u Q I rx ry h
  obtain ⟨a, b, oa, ob, rfl, rfl, ha, pa, hb, pb, q⟩ := h
  cases rx
  cases ry
  obtain ⟨o1, e1, n1⟩ := obj_there I ha pa
  obtain ⟨o2, e2, _⟩ := obj_there I hb pb
  by_cases z : a = b
  · subst z
    exact wpAny_isNot_ref_self (fin_bl I q (by simp))
  · exact wpAny_isNot_ref_other z e1 e2 n1 (fin_bl I q (by simp [z]))

/-- two rules for one operation: by cases -/
theorem OpR.or {f : Value → Value → Sem Value} {r r' : R2} (h : OpR X f r) (h' : OpR X f r') : OpR X f (fun x y H Q => r x y H Q ∨ r' x y H Q) := by
  intro pins s σ H x y v u Q I rx ry q
  rcases q with q | q
  · exact h pins s σ H x y v u Q I rx ry q
  · exact h' pins s σ H x y v u Q I rx ry q

theorem nomark (b : Expr) {op : CmpOp} (h : op ≠ .In := by decide) (h2 : op ≠ .NotIn := by decide) : behindInMarks op b = false := by
  have e1 : (op == CmpOp.In) = false := by cases op <;> first | rfl | exact absurd rfl h
  have e2 : (op == CmpOp.NotIn) = false := by cases op <;> first | rfl | exact absurd rfl h2
  cases b <;> simp [behindInMarks, e1, e2]
/-- a comparison as a value; hm: nomark b, or (for in, not in) by with_unfolding_all rfl -/
theorem pe_cmpR {op : CmpOp} {r : R2} (ho : OpR X (compareOp op) r) (ha : PE X a ta) (hb : PE X b tb) (hm : behindInMarks op b = false) : PE X (.Compare a [op] [b] pos) (tOp r ta tb) := by
  intro pins s σ H Q I h
  exact wpAny_Compare1 (binT ha hb I h fun v u s2 x y H2 I2 rx ry q => ho pins s2 σ H2 x y v u Q I2 rx ry q) hm
/-- a reading of a value as a test -/
def tTest (t : TE) : TT := fun σ H Q => t σ H fun x H' => ∃ k, x = .bl k ∧ Q k H'
theorem pt_cmpR {op : CmpOp} {r : R2} (ho : OpR X (compareOp op) r) (ha : PE X a ta) (hb : PE X b tb) (hm : behindInMarks op b = false) : PT X (.Compare a [op] [b] pos) (tTest (tOp r ta tb)) := by
  intro pins s σ H Q I h
  refine wpAny_isTrue_Compare1 (thn (ha pins s σ H _ I h) fun v s1 ⟨x, H1, I1, r1, q1⟩ => thn (hb pins s1 σ H1 _ I1 q1) fun u s2 ⟨y, H2, I2, r2, q2⟩ =>
    thn (ho pins s2 σ H2 x y v u _ I2 r1 r2 q2) fun c s3 ⟨z, H3, I3, r3, k, e, q3⟩ => ?_) hm
  subst e
  cases r3
  exact wpAny_truthy_bool ⟨H3, I3, q3⟩
/-- a op1 b op2 c -/
def tChain (r r' : R2) (ta tb tc : TE) : TE := fun σ H Q => ta σ H fun x H1 => tb σ H1 fun y H2 => r x y H2 fun z H3 => ∃ k, z = .bl k ∧
  (if k = true then tc σ H3 fun w' H4 => r' y w' H4 Q else Q (.bl false) H3)
theorem pe_chain {op op' : CmpOp} {r r' : R2} (ho : OpR X (compareOp op) r) (ho' : OpR X (compareOp op') r') (ha : PE X a ta) (hb : PE X b tb) (hc : PE X c tc)
    (hm : lastMarks [op, op'] [b, c] = false := by with_unfolding_all rfl) : PE X (.Compare a [op, op'] [b, c] pos) (tChain r r' ta tb tc) := by
  intro pins s σ H Q I h
  refine Compare_chain (thn (ha pins s σ H _ I h) fun v s1 ⟨x, H1, I1, r1, q1⟩ => chain_link (thn (hb pins s1 σ H1 _ I1 q1) fun u s2 ⟨y, H2, I2, r2, q2⟩ =>
    thn (ho pins s2 σ H2 x y v u _ I2 r1 r2 q2) fun d s3 ⟨z, H3, I3, r3, k, e, q3⟩ => ?_)) hm
  subst e
  cases r3
  refine wpAny_truthy_bool ?_
  cases k with
  | false => exact ite_ff ⟨.bl false, H3, I3, rfl, q3⟩
  | true => exact ite_tt (chain_last (thn (hc pins s3 σ H3 _ I3 q3) fun w' s4 ⟨z', H4, I4, r4, q4⟩ => ho' pins s4 σ H4 y z' u w' Q I4 r2 r4 q4))
theorem pt_chain {op op' : CmpOp} {r r' : R2} (ho : OpR X (compareOp op) r) (ho' : OpR X (compareOp op') r') (ha : PE X a ta) (hb : PE X b tb) (hc : PE X c tc)
    (hm : lastMarks [op, op'] [b, c] = false := by with_unfolding_all rfl) : PT X (.Compare a [op, op'] [b, c] pos) (tTest (tChain r r' ta tb tc)) := by
  intro pins s σ H Q I h
  refine isTrue_chain (thn (ha pins s σ H _ I h) fun v s1 ⟨x, H1, I1, r1, q1⟩ => test_link (thn (hb pins s1 σ H1 _ I1 q1) fun u s2 ⟨y, H2, I2, r2, q2⟩ =>
    thn (ho pins s2 σ H2 x y v u _ I2 r1 r2 q2) fun d s3 ⟨z, H3, I3, r3, k, e, q3⟩ => ?_)) hm
  subst e
  cases r3
  refine wpAny_truthy_bool ?_
  cases k with
  | false =>
    obtain ⟨k', e', q'⟩ := q3
    cases e'
    exact ite_ff ⟨H3, I3, q'⟩
  | true =>
    refine ite_tt (test_last (thn (hc pins s3 σ H3 _ I3 q3) fun w' s4 ⟨z', H4, I4, r4, q4⟩ => thn (ho' pins s4 σ H4 y z' u w' _ I4 r2 r4 q4) fun d' s5 ⟨z2, H5, I5, r5, k2, e2, q5⟩ => ?_))
    subst e2
    cases r5
    exact wpAny_truthy_bool ⟨H5, I5, q5⟩

/-! ### truth -/
/-- a value's truth by the abstract heap -/
def TruV (K : PySem.W.Frag) (x : V) (H : Hp) (k : Bool) : Prop :=
  match x with
  | .non => k = false
  | .bl b => k = b
  | .int i => k = (i != 0)
  | .str y => y.length ≤ sizeLine ∧ k = ((y.length : Int) != 0)
  | .byt y => y.size ≤ sizeLine ∧ k = ((y.size : Int) != 0)
  | .ref p => (∃ xs, SqL K H p xs ∧ k = !xs.isEmpty) ∨ (∃ xs, SqT K H p xs ∧ k = !xs.isEmpty) ∨ ∃ kvs, H p = some (.dK kvs) ∧ k = !kvs.isEmpty
  | _ => False
theorem isEmpty_kv {κ : Type} {kvs : List (κ × V)} {vs : List (κ × Value)} (r : KV kvs vs) : (!vs.isEmpty) = !kvs.isEmpty := by
  cases r <;> rfl
theorem isEmpty_of {xs : List V} {its : List Value} (r : Vals xs its) : (!its.toArray.isEmpty) = !xs.isEmpty := by
  cases r <;> simp
theorem line63 : (sizeLine : Nat) < 2 ^ 63 := by rw [sizeLine_eq]; decide
theorem tru_ok : TruR X (fun x H Q => ∃ k, TruV X.K x H k ∧ Q k H) := by
  intro pins s σ H x v Q I rx h
  obtain ⟨k, e, q⟩ := h
  have hl := line63
  have hs : sizeLine = 16777216 := sizeLine_eq
  cases x with
  | non =>
    cases rx
    have e' : k = false := e
    subst e'
    exact truthy_none ⟨H, I, q⟩
  | bl b =>
    cases rx
    have e' : k = b := e
    subst e'
    exact wpAny_truthy_bool ⟨H, I, q⟩
  | int i =>
    obtain ⟨t, rfl⟩ := rx
    have e' : k = (i != 0) := e
    subst e'
    exact PySem.P.truthy_int ⟨H, I, q⟩
  | str y =>
    obtain ⟨t, rfl⟩ := rx
    obtain ⟨hy, e'⟩ : y.length ≤ sizeLine ∧ k = ((y.length : Int) != 0) := e
    subst e'
    exact PySem.P.truthy_str (by omega) ⟨H, I.tok _, q⟩
  | byt y =>
    obtain ⟨t, rfl⟩ := rx
    obtain ⟨hy, e'⟩ : y.size ≤ sizeLine ∧ k = ((y.size : Int) != 0) := e
    subst e'
    exact PySem.W.truthy_bytes (by omega) ⟨H, I.tok _, q⟩
  | ref p =>
    cases rx
    have e' : (∃ xs, SqL X.K H p xs ∧ k = !xs.isEmpty) ∨ (∃ xs, SqT X.K H p xs ∧ k = !xs.isEmpty) ∨ ∃ kvs, H p = some (.dK kvs) ∧ k = !kvs.isEmpty := e
    rcases e' with ⟨xs, hx, e'⟩ | ⟨xs, hx, e'⟩ | ⟨kvs, hx, e'⟩
    · subst e'
      obtain ⟨its, r, pl, hz⟩ := I.list hx
      have hlen := r.length
      exact wpAny_truthy_list pl.isList (by simp only [List.size_toArray]; omega) ⟨H, I.tok _, by rw [isEmpty_of r]; exact q⟩
    · subst e'
      obtain ⟨its, r, pl, hz⟩ := I.tuple hx
      have hlen := r.length
      exact truthy_tuple pl (by simp only [List.size_toArray]; omega) ⟨H, I.tok _, by rw [isEmpty_of r]; exact q⟩
    · subst e'
      obtain ⟨hz, hS, vs, r, m⟩ : kvs.length ≤ sizeLine ∧ (p == sysModules) = false ∧ ∃ vs, KV kvs vs ∧ s.heap.DictOf (mixKind X.prog X.w) p vs := I.hok p _ hx
      have hlen : kvs.length = vs.length := Paired.length r
      exact wpAny_truthy_dict hS m (by omega) ⟨H, I.tok _, by rw [isEmpty_kv r]; exact q⟩
  | _ => exact (show False from e).elim
/-- any expression whose test is its value's truth (a name, a call, a subscript, a field ..: he by fun _ => rfl) -/
theorem pt_truth (ha : PE X a ta) (he : ∀ whole, isTrue a X.env whole = (do let v ← whole; standAt a.pos; holding [v] (truthy v))) :
    PT X a (fun σ H Q => ta σ H fun x H' => ∃ k, TruV X.K x H' k ∧ Q k H') := by
  intro pins s σ H Q I h
  exact isTrue_plain (thn (ha pins s σ H _ I h) fun v s1 ⟨x, H1, I1, r1, q1⟩ => tru_ok pins s1 σ H1 x v Q I1 r1 q1) (he _)

/-! ### strs and bytes -/
theorem pe_byt {x : List UInt8} {k : Nat} : PE X (.Constant (.bytes x) k pos) (fun _ H Q => Q (.byt x.toArray) H) := fun _ _ _ H _ I h => PySem.W.Constant_bytes ⟨.byt x.toArray, H, I.tok _, ⟨_, rfl⟩, h⟩
theorem op_add_str : OpR X (binaryOp .Add) (fun x y H Q => ∃ i j, x = .str i ∧ y = .str j ∧ i.length + j.length ≤ sizeLine ∧ Q (.str (i ++ j)) H) := by
  intro pins s σ H x y v u Q I rx ry h
  obtain ⟨i, j, rfl, rfl, hz, q⟩ := h
  obtain ⟨t, rfl⟩ := rx
  obtain ⟨t', rfl⟩ := ry
  exact add_str (fun t' tk => ⟨.str (i ++ j), H, I.tok _, ⟨_, rfl⟩, q⟩) hz
theorem iop_add_str : OpR X (inplaceOp .Add) (fun x y H Q => ∃ i j, x = .str i ∧ y = .str j ∧ i.length + j.length ≤ sizeLine ∧ Q (.str (i ++ j)) H) := by
  intro pins s σ H x y v u Q I rx ry h
  obtain ⟨i, j, rfl, rfl, hz, q⟩ := h
  obtain ⟨t, rfl⟩ := rx
  obtain ⟨t', rfl⟩ := ry
  exact iadd_str (fun t' tk => ⟨.str (i ++ j), H, I.tok _, ⟨_, rfl⟩, q⟩) hz
theorem op_add_byt : OpR X (binaryOp .Add) (fun x y H Q => ∃ i j, x = .byt i ∧ y = .byt j ∧ i.size + j.size ≤ 16777216 ∧ Q (.byt (i ++ j)) H) := by
  intro pins s σ H x y v u Q I rx ry h
  obtain ⟨i, j, rfl, rfl, hz, q⟩ := h
  obtain ⟨t, rfl⟩ := rx
  obtain ⟨t', rfl⟩ := ry
  exact PySem.W.KBy.add_bytes hz (fun t' tk => ⟨.byt (i ++ j), H, I.tok _, ⟨_, rfl⟩, q⟩)

def PlainIxT (b : Expr) : Prop := ∀ o i, subscripted b false o i = operate [o, i] (getItem o i)
/-- s[i], 0 ≤ i < len -/
theorem pe_item_str (ha : PE X a ta) (hb : PE X b tb) (hs : PlainIxT b) :
    PE X (.Subscript a b pos) (tOp (fun x y H Q => ∃ z i c, x = .str z ∧ y = .int i ∧ 0 ≤ i ∧ i < 2 ^ 63 ∧ i < z.length ∧ z.cps[i.toNat]? = some c ∧ Q (.str ⟨#[c]⟩) H) ta tb) := by
  intro pins s σ H Q I h
  refine Subscript_ (binT ha hb I h fun v u s2 x y H2 I2 rx ry q => ?_)
  obtain ⟨z, i, c, rfl, rfl, h0, h63, h1, hc, q⟩ := q
  obtain ⟨t, rfl⟩ := rx
  obtain ⟨t', rfl⟩ := ry
  have e : seqIndex? i z.length = some i.toNat := PySem.StrLaws.seqIndex_nonneg h0 h1
  exact tail_any (typeIs_str s2 z t) slot_str_getitem.lookup (getItem_str (c := c) (by
    have e1 : decide (i < -(2 ^ 63 : Int)) = false := decide_eq_false (by omega)
    have e2 : decide (i ≥ 2 ^ 63) = false := decide_eq_false (by omega)
    rw [e1, e2] <;> rfl) (by rw [e]; exact hc) ⟨.str ⟨#[c]⟩, H2, I2.tok _, ⟨_, rfl⟩, q⟩) (hs _ _)
/-- b[i], 0 ≤ i < len -/
theorem pe_item_byt (ha : PE X a ta) (hb : PE X b tb) (hs : PlainIxT b) :
    PE X (.Subscript a b pos) (tOp (fun x y H Q => ∃ (z : List UInt8) (i : Int), x = .byt z.toArray ∧ y = .int i ∧ z.length ≤ sizeLine ∧ 0 ≤ i ∧ i < z.length ∧ Q (.int ((z.getD i.toNat 0).toNat : Nat)) H) ta tb) := by
  intro pins s σ H Q I h
  refine Subscript_ (binT ha hb I h fun v u s2 x y H2 I2 rx ry q => ?_)
  obtain ⟨z, i, rfl, rfl, hz, h0, h1, q⟩ := q
  obtain ⟨t, rfl⟩ := rx
  obtain ⟨t', rfl⟩ := ry
  have hl : sizeLine = 16777216 := sizeLine_eq
  exact tail_any (PySem.W.typeIs_bytes s2 z.toArray t) PySem.W.FB.slot_bytes_getitem.lookup (PySem.W.getItem_bytes (by omega) h0 h1 ⟨.int ((z.getD i.toNat 0).toNat : Nat), H2, I2.tok _, ⟨_, rfl⟩, q⟩) (hs _ _)

/-! ### scalar builtins, by CallR -/
theorem vals1 {x : V} {us : List Value} (r : Vals [x] us) : ∃ u, us = [u] ∧ RelV x u := by
  cases r with
  | cons r1 r2 => cases r2; exact ⟨_, rfl, r1⟩
theorem vals2 {x y : V} {us : List Value} (r : Vals [x, y] us) : ∃ u w', us = [u, w'] ∧ RelV x u ∧ RelV y w' := by
  cases r with
  | cons r1 r2 =>
    cases r2 with
    | cons r3 r4 => cases r4; exact ⟨_, _, rfl, r1, r3⟩
theorem call_abs : CallR X (.builtin "abs") (fun xs H Q => ∃ i, xs = [.int i] ∧ Q (.int (if i < 0 then -i else i)) H) := by
  intro pins s σ H xs us Q I r h
  obtain ⟨i, rfl, q⟩ := h
  obtain ⟨u, rfl, t, rfl⟩ := vals1 r
  exact call_abs_int fun u tk => ⟨.int (if i < 0 then -i else i), H, I.tok _, ⟨_, rfl⟩, q⟩
theorem call_max2 (hc : X.calm = true) : CallR X (.builtin "max") (fun xs H Q => ∃ i j, xs = [.int i, .int j] ∧ Q (.int (if j > i then j else i)) H) := by
  intro pins s σ H xs us Q I r h
  obtain ⟨i, j, rfl, q⟩ := h
  obtain ⟨u, w', rfl, ⟨t, rfl⟩, ⟨t', rfl⟩⟩ := vals2 r
  refine max_two_ints (I.ok.hd hc) fun h' tk k => ⟨_, H, I.kept k, ?_, q⟩
  by_cases hj : j > i
  · rw [if_pos hj, if_pos hj]; exact ⟨_, rfl⟩
  · rw [if_neg hj, if_neg hj]; exact ⟨_, rfl⟩
theorem call_min2 (hc : X.calm = true) : CallR X (.builtin "min") (fun xs H Q => ∃ i j, xs = [.int i, .int j] ∧ Q (.int (if j < i then j else i)) H) := by
  intro pins s σ H xs us Q I r h
  obtain ⟨i, j, rfl, q⟩ := h
  obtain ⟨u, w', rfl, ⟨t, rfl⟩, ⟨t', rfl⟩⟩ := vals2 r
  refine min_two_ints (I.ok.hd hc) fun h' tk k => ⟨_, H, I.kept k, ?_, q⟩
  by_cases hj : j < i
  · rw [if_pos hj, if_pos hj]; exact ⟨_, rfl⟩
  · rw [if_neg hj, if_neg hj]; exact ⟨_, rfl⟩
theorem call_int1 : CallR X (.type "int") (fun xs H Q => (∃ i, xs = [.int i] ∧ Q (.int i) H) ∨ ∃ k, xs = [.bl k] ∧ Q (.int (if k then 1 else 0)) H) := by
  intro pins s σ H xs us Q I r h
  rcases h with ⟨i, rfl, q⟩ | ⟨k, rfl, q⟩
  · obtain ⟨u, rfl, t, rfl⟩ := vals1 r
    exact call_int_int ⟨.int i, H, I, ⟨_, rfl⟩, q⟩
  · obtain ⟨u, rfl, r1⟩ := vals1 r
    cases r1
    exact call_int_bool ⟨.int (if k then 1 else 0), H, I.tok _, ⟨_, rfl⟩, q⟩
theorem call_bool1 : CallR X (.type "bool") (fun xs H Q => (∃ i, xs = [.int i] ∧ Q (.bl (i != 0)) H) ∨ ∃ k, xs = [.bl k] ∧ Q (.bl k) H) := by
  intro pins s σ H xs us Q I r h
  rcases h with ⟨i, rfl, q⟩ | ⟨k, rfl, q⟩
  · obtain ⟨u, rfl, t, rfl⟩ := vals1 r
    exact call_bool_int ⟨.bl (i != 0), H, I, rfl, q⟩
  · obtain ⟨u, rfl, r1⟩ := vals1 r
    cases r1
    exact call_bool_bool ⟨.bl k, H, I, rfl, q⟩
theorem call_str_int : CallR X (.type "str") (fun xs H Q => ∃ i, xs = [.int i] ∧ i.natAbs.log2 < 1920 ∧ Q (.str (toString i)) H) := by
  intro pins s σ H xs us Q I r h
  obtain ⟨i, rfl, hz, q⟩ := h
  obtain ⟨u, rfl, t, rfl⟩ := vals1 r
  exact PySem.P.str_of_int hz ⟨.str _, H, I.tok _, ⟨_, rfl⟩, q⟩
theorem call_ord : CallR X (.builtin "ord") (fun xs H Q => ∃ x, xs = [.str x] ∧ x.length = 1 ∧ Q (.int (x.cps.getD 0 0 : Nat)) H) := by
  intro pins s σ H xs us Q I r h
  obtain ⟨x, rfl, hz, q⟩ := h
  obtain ⟨u, rfl, t, rfl⟩ := vals1 r
  exact ord_of_one hz ⟨.int _, H, I.tok _, ⟨_, rfl⟩, q⟩
theorem call_chr : CallR X (.builtin "chr") (fun xs H Q => ∃ i, xs = [.int i] ∧ 0 ≤ i ∧ i ≤ 1114111 ∧ Q (.str ⟨#[i.toNat]⟩) H) := by
  intro pins s σ H xs us Q I r h
  obtain ⟨i, rfl, h0, h1, q⟩ := h
  obtain ⟨u, rfl, t, rfl⟩ := vals1 r
  exact chr_of_range h0 h1 ⟨.str _, H, I.tok _, ⟨_, rfl⟩, q⟩
/-- len of a str, a bytes, a list, a tuple -/
def LenV (K : PySem.W.Frag) (x : V) (H : Hp) (n : Nat) : Prop :=
  match x with
  | .str y => y.length ≤ sizeLine ∧ n = y.length
  | .byt y => y.size ≤ sizeLine ∧ n = y.size
  | .ref p => (∃ xs, SqL K H p xs ∧ n = xs.length) ∨ ∃ xs, SqT K H p xs ∧ n = xs.length
  | _ => False
theorem call_len : CallR X (.builtin "len") (fun xs H Q => ∃ x n, xs = [x] ∧ LenV X.K x H n ∧ Q (.int n) H) := by
  intro pins s σ H xs us Q I r h
  obtain ⟨x, n, rfl, e, q⟩ := h
  obtain ⟨u, rfl, rx⟩ := vals1 r
  have hl := line63
  have hs : sizeLine = 16777216 := sizeLine_eq
  cases x with
  | str y =>
    obtain ⟨t, rfl⟩ := rx
    obtain ⟨hy, e'⟩ : y.length ≤ sizeLine ∧ n = y.length := e
    subst e'
    exact len_str (by omega) ⟨.int _, H, I.tok _, ⟨_, rfl⟩, q⟩
  | byt y =>
    obtain ⟨t, rfl⟩ := rx
    obtain ⟨hy, e'⟩ : y.size ≤ sizeLine ∧ n = y.size := e
    subst e'
    exact PySem.W.len_bytes (by omega) ⟨.int _, H, I.tok _, ⟨_, rfl⟩, q⟩
  | ref p =>
    cases rx
    have e' : (∃ xs, SqL X.K H p xs ∧ n = xs.length) ∨ ∃ xs, SqT X.K H p xs ∧ n = xs.length := e
    rcases e' with ⟨xs, hx, e'⟩ | ⟨xs, hx, e'⟩
    · subst e'
      obtain ⟨its, r', pl, hz⟩ := I.list hx
      have hlen := r'.length
      exact Calls.call_len_list pl.isList (by simp only [List.size_toArray]; omega) ⟨.int xs.length, H, I.tok _, ⟨_, by simp only [List.size_toArray]; rw [hlen]⟩, q⟩
    · subst e'
      obtain ⟨its, r', pl, hz⟩ := I.tuple hx
      have hlen := r'.length
      exact len_tuple pl (by simp only [List.size_toArray]; omega) ⟨.int xs.length, H, I.tok _, ⟨_, by simp only [List.size_toArray]; rw [hlen]⟩, q⟩
  | _ => exact (show False from e).elim
/-- divmod: a new tuple -/
theorem call_divmod : CallR X (.builtin "divmod") (fun xs H Q => ∃ i j, xs = [.int i, .int j] ∧ CDiv i j ∧ ∀ p, H p = none → Q (.ref p) (upd H p (.tup [.int (i / j), .int (i % j)]))) := by
  intro pins s σ H xs us Q I r h
  obtain ⟨i, j, rfl, ⟨h1, h2⟩, q⟩ := h
  obtain ⟨u, w', rfl, ⟨t, rfl⟩, ⟨t', rfl⟩⟩ := vals2 r
  refine divmod_int (by omega) ?_ (.inl (PyProof.noPylong_small (by omega)))
  rw [Int.fdiv_eq_ediv_of_nonneg i (by omega), Int.fmod_eq_emod_of_nonneg i (by omega)]
  have hn : H s.heap.objs.size = none := I.hok.fresh (Nat.le_refl _)
  refine ⟨.ref s.heap.objs.size, _, ?_, rfl, q _ hn⟩
  refine I.laid (fun b o e => Heap.get?_push_of_some _ e) (Nat.le_refl _) ⟨by simp only [List.length_cons, List.length_nil]; rw [sizeLine_eq]; decide, [.int (i / j) s.toks, .int (i % j) (s.toks + 1)], .cons ⟨_, rfl⟩ (.cons ⟨_, rfl⟩ .nil), ?_⟩
  exact ⟨_, Heap.get?_push_size s.heap rfl, rfl, 0, rfl⟩
end
end L2

namespace L2
open PySem PySem.Spec PyProof.Rows

/-! ### an instance, its attributes a map -/
structure ObjM (h : Heap) (x dx C : Addr) (mA : Str → Option Value) : Prop where
  obj : h.get? x = some (PySem.W.instObj C dx)
  ns : h.Ns1 dx mA
  ne : dx ≠ x

theorem lookIn_ns {h : Heap} {dx : Addr} {mA : Str → Option Value} (n : h.Ns1 dx mA) : ∃ od, h.get? dx = some od ∧ ∀ name, PySem.W.lookIn name od = some (mA name) := by
  obtain ⟨o, es, ep, ho, hd, hk, _, hm⟩ := n
  refine ⟨o, ho, fun name => ?_⟩
  have e := hm name
  unfold nsFind findBy at e
  rw [← Array.find?_toList] at e
  unfold PySem.W.lookIn
  rw [hd]
  dsimp only
  split
  · rename_i y q
    rw [q] at e
    exact congrArg some e
  · rename_i q
    rw [q] at e
    have a : es.toList.any (·.refKey) = false := by
      rw [List.any_eq_false]
      intro y hy
      obtain ⟨z, t, hkey⟩ := hk y (Array.mem_toList_iff.mp hy)
      simp [DictEntry.refKey, hkey]
    have a' : ¬ es.toList.any (·.refKey) = true := by rw [a]; exact Bool.false_ne_true
    rw [if_neg a']
    exact congrArg some e

theorem ObjM.look {h : Heap} {x dx C : Addr} {mA : Str → Option Value} (I : ObjM h x dx C mA) : ∃ od, PySem.W.InstAt h x (PySem.W.instObj C dx) C (some od) ∧ ∀ name, PySem.W.lookIn name od = some (mA name) :=
  let ⟨od, ho, hl⟩ := lookIn_ns I.ns
  ⟨od, ⟨I.obj, rfl, rfl, ho⟩, hl⟩

section
variable {prog : Program} {w : World} {A : Around} {E : Value → Shared → Prop} {s : Shared} {K : PySem.W.Frag} {x dx C f : Addr} {mA : Str → Option Value} {name : Str} {v : Value}

theorem get_map {expr : Bool} {Q : Value → Shared → Prop} (X : K.In s.heap) (I : ObjM s.heap x dx C mA) (hg : PySem.W.plainGet K C name = true) (hh : PySem.W.hasDictIn K C = true)
    (ha : PySem.W.findIn K (.ref C) name = some none) (hv : mA name = some v) (hv' : PySem.W.handedIn v = true) (h : Q v { s with toks := s.toks + 1 }) :
    wpAny (model prog w) A (getAttr (.ref x) name expr) Q E s := by
  obtain ⟨od, J, hl⟩ := I.look
  exact PySem.W.get_value X J (PySem.W.plainGet_of hg).1 (PySem.W.findObj_own hh ha rfl (by rw [hl, hv])) hv' h

theorem get_const {expr : Bool} {a : Value} {Q : Value → Shared → Prop} (X : K.In s.heap) (I : ObjM s.heap x dx C mA) (hg : PySem.W.plainGet K C name = true) (hh : PySem.W.hasDictIn K C = true)
    (ha : PySem.W.findIn K (.ref C) name = some (some a)) (hn : PySem.W.specialIn K a "__get__" = some none) (hc : PySem.W.copiedNames.contains name = false) (hv : mA name = none) (hv' : PySem.W.handedIn a = true)
    (h : Q a { s with toks := s.toks + 1 }) : wpAny (model prog w) A (getAttr (.ref x) name expr) Q E s := by
  obtain ⟨od, J, hl⟩ := I.look
  exact PySem.W.get_value X J (PySem.W.plainGet_of hg).1 (PySem.W.findObj_cls hh ha hn hv' hc (by rw [hl, hv])) hv' h

theorem get_meth {pl : Sem Bool} {Q : Value × List Value → Shared → Prop} (X : K.In s.heap) (I : ObjM s.heap x dx C mA) (hg : PySem.W.plainGet K C name = true)
    (hf : PySem.W.findIn K (.ref C) name = some (some (.ref f))) (ht : PySem.W.isFn K (.ref f) = true) (hv : mA name = none) (h : Q (.ref f, [.ref x]) s) :
    wpAny (model prog w) A (getMethod (.ref x) name pl) Q E s := by
  obtain ⟨od, J, hl⟩ := I.look
  exact PySem.W.method_fn X J (PySem.W.plainGet_of hg).1 (PySem.W.plainGet_of hg).2 hf (beq_iff_eq.mp ht) (by show (PySem.W.lookIn name od).map (·.isSome) = some false; rw [hl, hv]; rfl) h

theorem set_map {ns : List Str} {Q : Unit → Shared → Prop} (X : K.In s.heap) (I : ObjM s.heap x dx C mA)
    (hs : PySem.W.findIn K (.ref C) "__setattr__" = some (some (.builtin "object.__setattr__"))) (hp : PySem.W.plainOver K C = true) (ht : PySem.W.takerIn K C name = some none) (hh : PySem.W.hasDictIn K C = true)
    (hw : PySem.Within mA ns) (hsz : ns.length ≤ sizeLine)
    (h : ∀ h', ObjM h' x dx C (fun y => if y = name then some v else mA y) → Heap.SameBut dx s.heap h' → Q () { s with heap := h', toks := s.toks + 2 }) :
    wpAny (model prog w) A (setAttr (.ref x) name v) Q E s := by
  obtain ⟨od, J, hl⟩ := I.look
  refine PySem.W.set_plain X J hs (PySem.W.osa_open (s := { s with toks := s.toks + 1 }) (r := none) X J hp ht fun b => ?_)
  obtain ⟨cd, hc, hd'⟩ := PySem.W.any_some hh
  have hx : s.heap.get? x = some ⟨.ref C, some dx, .plain, #[]⟩ := I.obj
  refine wpAny_bind (wpAny_pure (wpAny_bind (wpAny_bind (wpAny_loadPart hx (wpAny_bind (PySem.W.Looks.here (s := { s with toks := s.toks + 1 }) (PySem.W.looks_clsIn X hc) ?_))))))
  rw [hd']
  refine wpAny_pure (a := some dx) (wpAny_bind (wpAny_pure (wpAny_bind ?_)))
  refine wpAny_nsSet1 (s := { s with toks := s.toks + 1 }) I.ns fun h' hn2 hs2 => ?_
  obtain ⟨oD, esD, epD, hoD, hdD, hcD⟩ := hn2.count (PySem.Within.cons name v hw)
  refine wpAny_bind (wpAny_lookBehind hoD (by rw [hdD]; exact pastItsLine_dict (Nat.le_trans hcD (by rw [List.length_cons]; omega))) ?_)
  exact wpAny_pure (h _ ⟨(hs2.2 _ (Ne.symm I.ne)).trans I.obj, hn2, I.ne⟩ hs2)

/-- C(..): the dict at the heap's end, the instance behind it; then its __init__ -/
theorem make_map {R : Result → Shared → Prop} {vs : List Value} {kw : List (Str × Value)} (X : K.In s.heap) (hm : PySem.W.makesIn K C = true)
    (hi : PySem.W.findIn K (.ref C) "__init__" = some (some (.ref f))) (hf : PySem.W.typeIn K (.ref f) = some (.type "function"))
    (h : codeAny (model prog w) (A.under (.builtin "type.__call__" ⟨.ref C :: vs, kw⟩)) (.call (.ref f) ⟨.ref (s.heap.objs.size + 1) :: vs, kw⟩) (PySem.W.InitBack (s.heap.objs.size + 1) R)
      { s with heap := (s.heap.push PySem.W.emptyDict).push (PySem.W.instObj C s.heap.objs.size) }) :
    codeAny (model prog w) A (.call (.ref C) ⟨vs, kw⟩) R s := by
  obtain ⟨hh, g, d, t, os⟩ := s
  exact PySem.W.make_core (PySem.W.makes_of X hm) (PySem.W.looks_findIn X hi) (fun self => PySem.W.bind_fn X self hf) (.inl rfl) h
/-- C() where there is no __init__ but object's -/
theorem make_map0 {R : Result → Shared → Prop} (X : K.In s.heap) (hm : PySem.W.makesIn K C = true)
    (hi : PySem.W.findIn K (.ref C) "__init__" = some (some (.builtin "object.__init__")))
    (hb : ∀ self, PySem.W.Looks (model prog w) s.heap (bindSpecial (.builtin "object.__init__") self) (.builtin "object.__init__", [self]))
    (h : codeAny (model prog w) (A.under (.builtin "type.__call__" ⟨[.ref C], []⟩)) (.call (.builtin "object.__init__") ⟨[.ref (s.heap.objs.size + 1)], []⟩) (PySem.W.InitBack (s.heap.objs.size + 1) R)
      { s with heap := (s.heap.push PySem.W.emptyDict).push (PySem.W.instObj C s.heap.objs.size) }) :
    codeAny (model prog w) A (.call (.ref C) ⟨[], []⟩) R s := by
  obtain ⟨hh, g, d, t, os⟩ := s
  exact PySem.W.make_core (PySem.W.makes_of X hm) (PySem.W.looks_findIn X hi) hb (.inr ⟨rfl, rfl⟩) h
end

/-! ### the attributes as a list of pairs -/
def putF (f : Str) (v : V) : List (Str × V) → List (Str × V)
  | [] => [(f, v)]
  | (g, x) :: r => if g = f then (g, v) :: r else (g, x) :: putF f v r
theorem lookup_putF (f g : Str) (v : V) : ∀ fs : List (Str × V), (putF f v fs).lookup g = if g = f then some v else fs.lookup g
  | [] => by
    show List.lookup g [(f, v)] = _
    by_cases h : g = f
    · have hb : (g == f) = true := beq_iff_eq.mpr h
      simp only [List.lookup, hb, if_pos h]
    · have hb : (g == f) = false := beq_eq_false_iff_ne.mpr h
      simp only [List.lookup, hb, if_neg h]
  | (k, x) :: r => by
    have ih := lookup_putF f g v r
    rw [show putF f v ((k, x) :: r) = (if k = f then (k, v) :: r else (k, x) :: putF f v r) from rfl]
    by_cases hk : k = f
    · rw [if_pos hk]
      by_cases h : g = k
      · have hb : (g == k) = true := beq_iff_eq.mpr h
        simp only [List.lookup, hb, if_pos (h.trans hk)]
      · have hb : (g == k) = false := beq_eq_false_iff_ne.mpr h
        simp only [List.lookup, hb, if_neg (fun e : g = f => h (e.trans hk.symm))]
    · rw [if_neg hk]
      by_cases h : g = k
      · have hb : (g == k) = true := beq_iff_eq.mpr h
        simp only [List.lookup, hb, if_neg (fun e : g = f => hk (h.symm.trans e))]
      · have hb : (g == k) = false := beq_eq_false_iff_ne.mpr h
        simp only [List.lookup, hb]
        exact ih
theorem keys_putF (f : Str) (v : V) : ∀ fs : List (Str × V), f ∈ (putF f v fs).map (·.1) ∧ ∀ g, g ∈ fs.map (·.1) → g ∈ (putF f v fs).map (·.1)
  | [] => ⟨by simp [putF], fun g h => by simp at h⟩
  | (k, x) :: r => by
    obtain ⟨i1, i2⟩ := keys_putF f v r
    rw [show putF f v ((k, x) :: r) = (if k = f then (k, v) :: r else (k, x) :: putF f v r) from rfl]
    by_cases hk : k = f
    · rw [if_pos hk]
      subst hk
      exact ⟨by simp, fun g h => by simpa using h⟩
    · rw [if_neg hk]
      refine ⟨?_, fun g h => ?_⟩
      · rw [List.map_cons]
        exact List.mem_cons_of_mem _ i1
      · rw [List.map_cons] at h ⊢
        rcases List.mem_cons.mp h with e | e
        · exact List.mem_cons.mpr (.inl e)
        · exact List.mem_cons_of_mem _ (i2 g e)
theorem length_putF (f : Str) (v : V) : ∀ fs : List (Str × V), (putF f v fs).length ≤ fs.length + 1
  | [] => by simp [putF]
  | (k, x) :: r => by
    have ih := length_putF f v r
    rw [show putF f v ((k, x) :: r) = (if k = f then (k, v) :: r else (k, x) :: putF f v r) from rfl]
    by_cases hk : k = f
    · rw [if_pos hk, List.length_cons, List.length_cons]; omega
    · rw [if_neg hk, List.length_cons, List.length_cons]; omega

theorem RelO.some_of {v : V} {o : Option Value} (r : RelO (some v) o) : ∃ u, o = some u ∧ RelV v u := by
  cases o with
  | none => exact (show False from r).elim
  | some u => exact ⟨u, rfl, r⟩
theorem RelO.none_of {o : Option Value} (r : RelO none o) : o = none := by
  cases o with
  | none => rfl
  | some u => exact (show False from r).elim
theorem handed_of {v : V} {u : Value} (r : RelV v u) : PySem.W.handedIn u = true := by
  cases v with
  | non => cases (show u = Value.none from r); rfl
  | bl b => cases (show u = Value.bool b from r); rfl
  | int i => obtain ⟨t, e⟩ := (show ∃ t, u = Value.int i t from r); cases e; rfl
  | str x => obtain ⟨t, e⟩ := (show ∃ t, u = Value.str x t from r); cases e; rfl
  | byt b => obtain ⟨t, e⟩ := (show ∃ t, u = Value.bytes b t from r); cases e; rfl
  | flt b => obtain ⟨t, e⟩ := (show ∃ t, u = Value.float b t from r); cases e; rfl
  | ref a => cases (show u = Value.ref a from r); rfl
  | ty n => cases (show u = Value.type n from r); rfl

section
variable {P : Program} {w : World} {H H' : Hp} {h h' : Heap} {a C dx : Addr} {fs fs' : List (Str × V)}
theorem ins_get (hok : HOk P w H h) (e : H a = some (.ins C dx fs)) : ∃ mA, ObjM h a dx C mA ∧ (∀ f, RelO (fs.lookup f) (mA f)) ∧ PySem.Within mA (fs.map (·.1)) ∧ fs.length ≤ 1000 ∧ H dx = some (.own a) := by
  obtain ⟨d, z, ne, ob, mA, n, r, q⟩ := (show ObjOk P w H h a (.ins C dx fs) from hok a _ e)
  exact ⟨mA, ⟨ob, n, ne⟩, r, q, z, d⟩
end

/-! ### what of the text a class must have -/
structure Cls (K : PySem.W.Frag) (C : Addr) : Prop where
  pg : PySem.W.plainGet K C Str.empty = true
  hd : PySem.W.hasDictIn K C = true
  po : PySem.W.plainOver K C = true
  sa : PySem.W.findIn K (.ref C) "__setattr__" = some (some (.builtin "object.__setattr__"))
theorem Cls.get {K : PySem.W.Frag} {C : Addr} (c : Cls K C) (f : Str) : PySem.W.plainGet K C f = true := c.pg
/-- no class of it has the name -/
def NoAttr (K : PySem.W.Frag) (C : Addr) (f : Str) : Prop := PySem.W.findIn K (.ref C) f = some none
theorem NoAttr.taker {K : PySem.W.Frag} {C : Addr} {f : Str} (n : NoAttr K C f) : PySem.W.takerIn K C f = some none := by
  unfold PySem.W.takerIn
  rw [show PySem.W.findIn K (.ref C) f = some none from n]
  rfl
/-- a constant of the class -/
structure Con (K : PySem.W.Frag) (C : Addr) (f : Str) (v : V) (u : Value) : Prop where
  at_ : PySem.W.findIn K (.ref C) f = some (some u)
  rel : RelV v u
  get : PySem.W.specialIn K u "__get__" = some none
  cp : PySem.W.copiedNames.contains f = false
/-- a method: a plain def of the class or of one above it -/
structure Meth (K : PySem.W.Frag) (C : Addr) (m : Str) (f : Addr) : Prop where
  at_ : PySem.W.findIn K (.ref C) m = some (some (.ref f))
  fn : PySem.W.isFn K (.ref f) = true
  kp : PySem.W.keepIn K (.ref f) = true

section
variable {X : Cx} {pins : List (Addr × Obj)} {σ : St} {H : Hp} {s : Shared} {a C dx : Addr} {fs : List (Str × V)} {f : Str} {v : V} {A : Around} {E : Value → Shared → Prop}

theorem getattr_ok {b : Bool} {Q : Value → Shared → Prop} (I : Inv X pins σ H s) (e : H a = some (.ins C dx fs)) (c : Cls X.K C) (n : NoAttr X.K C f) (l : fs.lookup f = some v)
    (h : ∀ u s', Inv X pins σ H s' → RelV v u → Q u s') : wpAny (model X.prog X.w) A (getAttr (.ref a) f b) Q E s := by
  obtain ⟨mA, O, r, _, _, _⟩ := ins_get I.hok e
  obtain ⟨u, hu, ru⟩ := RelO.some_of (v := v) (o := mA f) (by rw [← l]; exact r f)
  exact get_map I.kIn O (c.get f) c.hd n hu (handed_of ru) (h u _ (I.tok _) ru)

theorem getcon_ok {b : Bool} {u : Value} {Q : Value → Shared → Prop} (I : Inv X pins σ H s) (e : H a = some (.ins C dx fs)) (c : Cls X.K C) (k : Con X.K C f v u) (l : fs.lookup f = none)
    (h : ∀ s', Inv X pins σ H s' → Q u s') : wpAny (model X.prog X.w) A (getAttr (.ref a) f b) Q E s := by
  obtain ⟨mA, O, r, _, _, _⟩ := ins_get I.hok e
  have hn : mA f = none := RelO.none_of (by rw [← l]; exact r f)
  exact get_const I.kIn O (c.get f) c.hd k.at_ k.get k.cp hn (handed_of k.rel) (h _ (I.tok _))

theorem getmeth_ok {m : Str} {g : Addr} {pl : Sem Bool} {Q : Value × List Value → Shared → Prop} (I : Inv X pins σ H s) (e : H a = some (.ins C dx fs)) (c : Cls X.K C) (k : Meth X.K C m g) (l : fs.lookup m = none)
    (h : Q (.ref g, [.ref a]) s) : wpAny (model X.prog X.w) A (getMethod (.ref a) m pl) Q E s := by
  obtain ⟨mA, O, r, _, _, _⟩ := ins_get I.hok e
  have hn : mA m = none := RelO.none_of (by rw [← l]; exact r m)
  exact get_meth I.kIn O (c.get m) k.at_ k.fn hn h

theorem setattr_ok {y : V} {u : Value} {Q : Unit → Shared → Prop} (I : Inv X pins σ H s) (e : H a = some (.ins C dx fs)) (c : Cls X.K C) (n : NoAttr X.K C f) (hl : fs.length < 1000) (ry : RelV y u)
    (h : ∀ s', Inv X pins σ (upd H a (.ins C dx (putF f y fs))) s' → Q () s') : wpAny (model X.prog X.w) A (setAttr (.ref a) f u) Q E s := by
  obtain ⟨mA, O, r, wi, _, ho⟩ := ins_get I.hok e
  have hz : (fs.map (·.1)).length ≤ sizeLine := by rw [List.length_map, sizeLine_eq]; omega
  refine set_map I.kIn O c.sa c.po n.taker c.hd wi hz fun h' O' sb => h _ ?_
  have hd : ∃ o, h'.get? dx = some o := let ⟨o, _, _, e', _⟩ := O'.ns; ⟨o, e'⟩
  refine I.write (x := a) (e := dx) (by rw [e]; exact True.intro) (.inr ho) (fun b q hb z => (sb.2 b hb).trans z) hd ?_
  refine ⟨by rw [upd_ne O.ne]; exact ho, ?_, O.ne, O'.obj, _, O'.ns, fun g => ?_, fun g hg => ?_⟩
  · have := length_putF f y fs; omega
  · show RelO ((putF f y fs).lookup g) (if g = f then some u else mA g)
    rw [lookup_putF]
    by_cases q : g = f
    · rw [if_pos q, if_pos q]; exact ry
    · rw [if_neg q, if_neg q]; exact r g
  · by_cases q : g = f
    · rw [q]; exact (keys_putF f y fs).1
    · refine (keys_putF f y fs).2 g (wi g fun z => hg ?_)
      show (if g = f then some u else mA g) = none
      rw [if_neg q]; exact z

/-- a new instance, tracked, without attributes -/
theorem Inv.made (I : Inv X pins σ H s) : Inv X pins σ (upd (upd H s.heap.objs.size (.own (s.heap.objs.size + 1))) (s.heap.objs.size + 1) (.ins C s.heap.objs.size []))
    { s with heap := (s.heap.push PySem.W.emptyDict).push (PySem.W.instObj C s.heap.objs.size) } := by
  have e1 : (s.heap.push PySem.W.emptyDict).get? s.heap.objs.size = some PySem.W.emptyDict := Heap.get?_push_size s.heap rfl
  have e2 : ((s.heap.push PySem.W.emptyDict).push (PySem.W.instObj C s.heap.objs.size)).get? (s.heap.objs.size + 1) = some (PySem.W.instObj C s.heap.objs.size) := by
    have := Heap.get?_push_size (s.heap.push PySem.W.emptyDict) (o := PySem.W.instObj C s.heap.objs.size) rfl
    rwa [Heap.size_push] at this
  have e3 : (s.heap.push PySem.W.emptyDict).Ns s.heap.objs.size (fun _ => none) := ⟨PySem.W.emptyDict, #[], _, e1, rfl, (fun e he => absurd he (by simp)), fun _ => rfl⟩
  have I1 := I.laid (a := s.heap.objs.size) (o := .own (s.heap.objs.size + 1)) (h' := s.heap.push PySem.W.emptyDict) (t' := s.toks) (fun b u q => Heap.get?_push_of_some _ q) (Nat.le_refl _) ⟨_, e1⟩
  refine I1.laid (a := s.heap.objs.size + 1) (o := .ins C s.heap.objs.size []) (t' := s.toks) (fun b u q => Heap.get?_push_of_some _ q) (Nat.le_of_eq (Heap.size_push _ _)) ?_
  have ne : s.heap.objs.size ≠ s.heap.objs.size + 1 := Nat.ne_of_lt (Nat.lt_succ_self _)
  refine ⟨by rw [upd_ne ne, upd_same], Nat.zero_le _, ne, e2, fun _ => none, (Heap.Ns1.of_empty e3).at fun o q => Heap.get?_push_of_some _ q, fun _ => True.intro, fun y hy => absurd rfl hy⟩

/-- e.f where nothing but the object is asked: through attributeBase (super) and the last hold -/
theorem attr_of {prog : Program} {w : World} {env : Env} {e : Expr} {f : Str} {pos : Pos} {s : Shared} {Q : Value → Shared → Prop} (hb : attributeBase e f env (eval e env) = eval e env)
    (h : wpAny (model prog w) A (eval e env) (fun o s₁ => wpAny (model prog w) A (getAttr o f true) Q E s₁) E s) : wpAny (model prog w) A (eval (.Attribute e f pos) env) Q E s :=
  Attribute_any_ h (by rw [arm_eval_Attribute, hb])
end

/-! ### readings and rules -/
/-- e.f, an attribute of the instance -/
def tFld (K : PySem.W.Frag) (ta : TE) (f : Str) : TE := fun σ H Q => ta σ H fun x H1 => ∃ a C dx fs v, x = .ref a ∧ H1 a = some (.ins C dx fs) ∧ Cls K C ∧ NoAttr K C f ∧ fs.lookup f = some v ∧ Q v H1
/-- e.f, a constant of the class -/
def tCon (K : PySem.W.Frag) (ta : TE) (f : Str) : TE := fun σ H Q => ta σ H fun x H1 => ∃ a C dx fs v u, x = .ref a ∧ H1 a = some (.ins C dx fs) ∧ Cls K C ∧ Con K C f v u ∧ fs.lookup f = none ∧ Q v H1
/-- e.f = value -/
def sFld (K : PySem.W.Frag) (ta tv : TE) (f : Str) : TS := fun D σ H => tv σ H fun y H1 => ta σ H1 fun x H2 => ∃ a C dx fs, x = .ref a ∧ H2 a = some (.ins C dx fs) ∧ Cls K C ∧ NoAttr K C f ∧ fs.length < 1000 ∧
  D.nx σ (upd H2 a (.ins C dx (putF f y fs)))
/-- an augmented operator on two values -/
def InOp (X : Cx) (op : Operator) (rd : V → V → Hp → VK → Prop) : Prop :=
  ∀ (pins : List (Addr × Obj)) (s : Shared) (σ : St) (H : Hp) (x y : V) (u v : Value) (Q : VK), Inv X pins σ H s → RelV x u → RelV y v → rd x y H Q → wpAny (model X.prog X.w) X.A (inplaceOp op u v) (EP X pins σ Q) X.xe s
/-- e.f op= value -/
def sFldAug (K : PySem.W.Frag) (ta tv : TE) (rd : V → V → Hp → VK → Prop) (f : Str) : TS := fun D σ H => ta σ H fun x H1 => ∃ a C dx fs v, x = .ref a ∧ H1 a = some (.ins C dx fs) ∧ Cls K C ∧ NoAttr K C f ∧ fs.lookup f = some v ∧
  tv σ H1 fun y H2 => rd v y H2 fun z H3 => ∃ dx' fs', H3 a = some (.ins C dx' fs') ∧ fs'.length < 1000 ∧ D.nx σ (upd H3 a (.ins C dx' (putF f z fs')))

section
variable {X : Cx} {o e value : Expr} {f : Str} {pos pos' tpos : Pos} {ta tv : TE}
theorem pe_fld (he : PE X e ta) (hb : attributeBase e f X.env (eval e X.env) = eval e X.env) : PE X (.Attribute e f pos) (tFld X.K ta f) := by
  intro pins s σ H Q I h
  refine attr_of hb (thn (he pins s σ H _ I h) fun u s1 ⟨x, H1, I1, rx, a, C, dx, fs, v, ex, ea, c, n, l, q⟩ => ?_)
  subst ex
  obtain rfl : u = Value.ref a := rx
  exact getattr_ok I1 ea c n l fun u' s2 I2 ru => ⟨v, H1, I2, ru, q⟩
theorem pe_con (he : PE X e ta) (hb : attributeBase e f X.env (eval e X.env) = eval e X.env) : PE X (.Attribute e f pos) (tCon X.K ta f) := by
  intro pins s σ H Q I h
  refine attr_of hb (thn (he pins s σ H _ I h) fun u s1 ⟨x, H1, I1, rx, a, C, dx, fs, v, u0, ex, ea, c, k, l, q⟩ => ?_)
  subst ex
  obtain rfl : u = Value.ref a := rx
  exact getcon_ok I1 ea c k l fun s2 I2 => ⟨v, H1, I2, k.rel, q⟩
theorem ps_fld (ha : PE X o ta) (hv : PE X value tv) (hs : swapsWith value (some (.Attribute o f pos')) pos.line X.env = pure false) : PS X (.Assign [.Attribute o f pos'] value pos) (sFld X.K ta tv f) := by
  intro pins s σ H D I h
  refine plainObj_wpAny_Assign_Attribute (thn (hv pins s σ H _ I h) fun u s1 ⟨y, H1, I1, ry, q⟩ => thn (ha pins s1 σ H1 _ I1 q) fun ov s2 ⟨x, H2, I2, rx, a, C, dx, fs, ex, ea, c, n, l, q2⟩ => ?_) hs
  subst ex
  obtain rfl : ov = Value.ref a := rx
  exact setattr_ok I2 ea c n l ry fun s3 I3 => ⟨σ, _, I3, q2⟩
theorem ps_fldaug {op : Operator} {rd : V → V → Hp → VK → Prop} (ha : PE X o ta) (hv : PE X value tv) (hop : InOp X op rd) : PS X (.AugAssign (.Attribute o f tpos) op value pos) (sFldAug X.K ta tv rd f) := by
  intro pins s σ H D I h
  refine wpAny_AugAssign_AttributeAny (thn (ha pins s σ H _ I h) fun ov s1 ⟨x, H1, I1, rx, a, C, dx, fs, v, ex, ea, c, n, l, q⟩ => ?_)
  subst ex
  obtain rfl : ov = Value.ref a := rx
  refine getattr_ok I1 ea c n l fun u s2 I2 ru => thn (hv pins s2 σ H1 _ I2 q) fun w3 s3 ⟨y, H2, I3, ry, q3⟩ => thn (hop pins s3 σ H2 v y u w3 _ I3 ru ry q3) fun w4 s4 ⟨z, H3, I4, rz, dx', fs', ea', l', q4⟩ => ?_
  exact setattr_ok I4 ea' c n l' rz fun s5 I5 => ⟨σ, _, I5, q4⟩
def rAdd : V → V → Hp → VK → Prop := fun x y H Q => ∃ i j, x = .int i ∧ y = .int j ∧ Q (.int (i + j)) H
def rSub : V → V → Hp → VK → Prop := fun x y H Q => ∃ i j, x = .int i ∧ y = .int j ∧ Q (.int (i - j)) H
theorem in_add : InOp X .Add rAdd := by
  rintro pins s σ H x y u v Q I rx ry ⟨i, j, rfl, rfl, q⟩
  obtain ⟨t, rfl⟩ := (show ∃ t, u = Value.int i t from rx)
  obtain ⟨t', rfl⟩ := (show ∃ t', v = Value.int j t' from ry)
  exact PyProof.Rows.iadd_int ⟨.int (i + j), H, I.tok _, ⟨_, rfl⟩, q⟩
theorem in_sub : InOp X .Sub rSub := by
  rintro pins s σ H x y u v Q I rx ry ⟨i, j, rfl, rfl, q⟩
  obtain ⟨t, rfl⟩ := (show ∃ t, u = Value.int i t from rx)
  obtain ⟨t', rfl⟩ := (show ∃ t', v = Value.int j t' from ry)
  exact PyProof.Rows.isub_int ⟨.int (i - j), H, I.tok _, ⟨_, rfl⟩, q⟩

/-- what is between an instance and its method: the tree of a method call -/
theorem methcall_of {pl : Sem Bool} {m : Str} {apos : Pos} {args : List Expr} {pins : List (Addr × Obj)} {s : Shared} {σ : St} {H : Hp} {Q : Value → Shared → Prop} {te : TE} (he : PE X e te) (I : Inv X pins σ H s)
    (h : te σ H fun x H1 => ∃ a C dx fs g, x = .ref a ∧ H1 a = some (.ins C dx fs) ∧ Cls X.K C ∧ Meth X.K C m g ∧ fs.lookup m = none ∧
      ∀ s1, Inv X pins σ H1 s1 → wpAny (model X.prog X.w) X.A (callWith pos (.ref g) [.ref a] (backTo pos (starEach args X.env)) (backToKw pos (keywordEach [] X.env))) Q X.xe s1)
    (ht : eval (.Call (.Attribute e m apos) args [] pos) X.env = (do
      let ov ← eval e X.env
      standAt apos.atName
      let (f, first) ← holding [ov] (getMethod ov m pl)
      callWith pos f first (backTo pos (starEach args X.env)) (backToKw pos (keywordEach [] X.env)))) :
    wpAny (model X.prog X.w) X.A (eval (.Call (.Attribute e m apos) args [] pos) X.env) Q X.xe s := by
  refine PySem.W.methodCall_KW (pl := pl) (thn (he pins s σ H _ I h) fun u s1 ⟨x, H1, I1, rx, a, C, dx, fs, g, ex, ea, c, k, l, q⟩ => ?_) ht
  subst ex
  obtain rfl : u = Value.ref a := rx
  exact getmeth_ok I1 ea c k l (q s1 I1)
end

/-! ### isinstance -/
section
variable {X : Cx} {pins : List (Addr × Obj)} {σ : St} {H : Hp} {s : Shared} {A : Around} {E : Value → Shared → Prop} {Q : Value → Shared → Prop} {c : Value} {b : Bool}
/-- the type of a value, as the fragment's deciders take it; for an instance its class -/
inductive TyOf (K : PySem.W.Frag) (H : Hp) : V → Value → Prop where
  | non : TyOf K H .non (.type "NoneType")
  | bl (x : Bool) : TyOf K H (.bl x) (.type "bool")
  | int (i : Int) : TyOf K H (.int i) (.type "int")
  | str (x : Str) : TyOf K H (.str x) (.type "str")
  | flt (x : UInt64) : TyOf K H (.flt x) (.type "float")
  | lst {a : Addr} {xs : List V} (e : H a = some (.lst xs)) : TyOf K H (.ref a) (.type "list")
  | frz {a : Addr} {o : Obj} {xs : List V} (e : H a = some (.frz o (.lst xs))) : TyOf K H (.ref a) (.type "list")
  | tup {a : Addr} {xs : List V} (e : H a = some (.tup xs)) : TyOf K H (.ref a) (.type "tuple")
  | dK {a : Addr} {kvs : List (Key × V)} (e : H a = some (.dK kvs)) : TyOf K H (.ref a) (.type "dict")
  | dT {a : Addr} {kvs : List (List Key × V)} (e : H a = some (.dT kvs)) : TyOf K H (.ref a) (.type "dict")
  | ins {a C dx : Addr} {fs : List (Str × V)} (e : H a = some (.ins C dx fs)) (cl : Cls K C) (ha : PySem.W.findIn K (.ref C) "__class__" = some (some (.builtin "object.__class__")))
      (hn : PySem.W.specialIn K (.builtin "object.__class__") "__get__" = some (some (.builtin "getset_descriptor.__get__"))) (htk : PySem.W.takesIn K (.builtin "object.__class__") = some true)
      (hm : PySem.W.mroIn K C (.type "object") = some true) : TyOf K H (.ref a) (.ref C)
/-- isinstance(x, c) for one class c, a built-in or an own one: kitOne's answer -/
theorem isinst_ok {x : V} {u t : Value} (I : Inv X pins σ H s) (rx : RelV x u) (ty : TyOf X.K H x t) (e : PySem.W.kitOne X.K t c = some b) (h : ∀ tk, Q (.bool b) { s with toks := tk }) :
    wpAny (model X.prog X.w) A (call (.builtin "isinstance") [u, c]) Q E s := by
  cases ty with
  | non => cases (show u = Value.none from rx); exact PySem.W.kia_one PySem.W.kitx_none I.kIn True.intro e (fun z => nomatch z) h
  | bl y => cases (show u = Value.bool y from rx); exact PySem.W.kia_one PySem.W.kitx_bool I.kIn True.intro e (fun z => nomatch z) h
  | int i => obtain ⟨t, q⟩ := (show ∃ t, u = Value.int i t from rx); cases q; exact PySem.W.kia_one PySem.W.kitx_int I.kIn True.intro e (fun z => nomatch z) h
  | str y => obtain ⟨t, q⟩ := (show ∃ t, u = Value.str y t from rx); cases q; exact PySem.W.kia_one PySem.W.kitx_str I.kIn True.intro e (fun z => nomatch z) h
  | flt y => obtain ⟨t, q⟩ := (show ∃ t, u = Value.float y t from rx); cases q; exact PySem.W.kia_one PySem.W.kitx_float I.kIn True.intro e (fun z => nomatch z) h
  | @lst a xs ea =>
    cases (show u = Value.ref a from rx)
    obtain ⟨_, _, n, _, h1⟩ := (show ObjOk X.prog X.w H s.heap a (.lst xs) from I.hok a _ ea)
    exact PySem.W.kia_one PySem.W.kitx_list I.kIn ⟨_, h1, rfl⟩ e (fun z => nomatch z) h
  | @frz a ob xs ea =>
    cases (show u = Value.ref a from rx)
    obtain ⟨_, _, _, n, _, h1⟩ := (show ObjOk X.prog X.w H s.heap a (.frz ob (.lst xs)) from I.hok a _ ea)
    exact PySem.W.kia_one PySem.W.kitx_list I.kIn ⟨_, h1, rfl⟩ e (fun z => nomatch z) h
  | @tup a xs ea =>
    cases (show u = Value.ref a from rx)
    obtain ⟨_, _, _, p⟩ := (show ObjOk X.prog X.w H s.heap a (.tup xs) from I.hok a _ ea)
    obtain ⟨o, h1, h2, _⟩ := p
    exact PySem.W.kia_one PySem.W.kitx_tuple I.kIn ⟨o, h1, h2⟩ e (fun z => nomatch z) h
  | @dK a kvs ea =>
    cases (show u = Value.ref a from rx)
    obtain ⟨_, _, vs, _, p⟩ := (show ObjOk X.prog X.w H s.heap a (.dK kvs) from I.hok a _ ea)
    obtain ⟨o, es, ep, h1, h2, _⟩ := p
    exact PySem.W.kia_one PySem.W.kitx_dict I.kIn ⟨o, h1, h2.1⟩ e (fun z => nomatch z) h
  | @dT a kvs ea =>
    cases (show u = Value.ref a from rx)
    obtain ⟨_, _, xs, _, o, es, ep, h1, h2, _⟩ := (show ObjOk X.prog X.w H s.heap a (.dT kvs) from I.hok a _ ea)
    exact PySem.W.kia_one PySem.W.kitx_dict I.kIn ⟨o, h1, h2.1⟩ e (fun z => nomatch z) h
  | @ins a C dx fs ea cl ha hn htk hm =>
    cases (show u = Value.ref a from rx)
    obtain ⟨mA, O, _⟩ := ins_get I.hok ea
    obtain ⟨od, J, _⟩ := O.look
    exact PySem.W.kia_one (PySem.W.kitx_own (cl.get _) cl.hd ha hn htk hm) I.kIn J e (fun z => nomatch z) h
end
end L2

namespace L2
open PySem PySem.Spec PyProof.Rows

/-! ### room -/
structure Room (k : Nat) (A : Around) : Prop where
  hd : A.handled = none
  dp : A.depth + 3 * k + 5 < recursionLimit
  un : A.units + 16 * k + 200 < cLine
theorem Room.mono {j k : Nat} {A : Around} (r : Room k A) (h : j ≤ k) : Room j A := ⟨r.hd, by have := r.dp; omega, by have := r.un; omega⟩
theorem Room.deeper {k : Nat} {A : Around} (r : Room (k + 1) A) (env : Env) : Room k (A.deeper env) :=
  ⟨r.hd, by have := r.dp; show A.depth + 1 + 3 * k + 5 < _; omega, by have := r.un; show A.units + 3 + 16 * k + 200 < _; omega⟩
theorem Room.in1 {k : Nat} {A : Around} (r : Room (k + 1) A) : Room k A.in1 :=
  ⟨r.hd, by have := r.dp; show A.depth + 3 * k + 5 < _; omega, by have := r.un; show A.units + 1 + 16 * k + 200 < _; omega⟩
theorem make_depth {A : Around} {C : Addr} {us : List Value} {kw : List (Str × Value)} : (A.under (.builtin "type.__call__" ⟨.ref C :: us, kw⟩)).depth = A.depth + 1 := by
  first | rfl | simp [Around.under, Code.weight, Code.isCreation, Code.isGuard, Code.isCaller, Code.frames, Code.isFrame, guardIds]
theorem make_units {A : Around} {C : Addr} {us : List Value} {kw : List (Str × Value)} : (A.under (.builtin "type.__call__" ⟨.ref C :: us, kw⟩)).units = A.units + 1 := by
  first | rfl | simp [Around.under, Code.cUnits, Code.frames, Code.isFrame]
theorem Room.make {k : Nat} {A : Around} (r : Room (k + 1) A) (C : Addr) (us : List Value) (kw : List (Str × Value)) : Room k (A.under (.builtin "type.__call__" ⟨.ref C :: us, kw⟩)) :=
  ⟨r.hd, by have := r.dp; rw [make_depth]; omega, by have := r.un; rw [make_units]; omega⟩
theorem Room.depth {k : Nat} {A : Around} (r : Room k A) : A.depth < recursionLimit := by have := r.dp; omega
theorem Room.units {k : Nat} {A : Around} (r : Room k A) : A.units + 64 < cLine := by have := r.un; omega
theorem Room.units0 {k : Nat} {A : Around} (r : Room k A) : A.units < cLine := by have := r.un; omega

/-! ### argument lists and displays -/
def tNil : TA := fun _ H Q => Q [] H
def tCons (ta : TE) (tr : TA) : TA := fun σ H Q => ta σ H fun x H1 => tr σ H1 fun xs H2 => Q (x :: xs) H2
section
variable {X : Cx} {e : Expr} {es : List Expr} {te : TE} {t : TA} {pos : Pos}
theorem pa_nil : PA X [] tNil := fun _ _ _ _ H Q I h => Calls.spliced_nil ⟨[], H, I, .nil, h⟩
theorem pa_cons (ha : PE X e te) (hr : PA X es t) (hs : starEach (e :: es) X.env = (false, eval e X.env) :: starEach es X.env := by rfl) : PA X (e :: es) (tCons te t) := by
  intro pos pins s σ H Q I h
  rw [hs]
  show wpAny _ _ (spliced ((false, eval e X.env) :: backTo pos (starEach es X.env))) _ _ s
  refine Calls.spliced_cons (thn (ha pins s σ H _ I h) fun u s1 ⟨x, H1, I1, r1, q1⟩ => ?_)
  exact thn (hr pos pins s1 σ H1 _ I1 q1) fun us s2 ⟨xs, H2, I2, r2, q2⟩ => ⟨x :: xs, H2, I2, .cons r1 r2, q2⟩

/-- a tuple, a list of written items -/
def tTup (t : TA) : TE := fun σ H Q => t σ H fun xs H1 => xs.length ≤ sizeLine ∧ ∀ p, H1 p = none → Q (.ref p) (upd H1 p (.tup xs))
def tLst (t : TA) : TE := fun σ H Q => t σ H fun xs H1 => xs.length ≤ sizeLine ∧ ∀ p, H1 p = none → Q (.ref p) (upd H1 p (.lst xs))
theorem pe_tup {x1} (h : PA X es t) : PE X (.Tuple es x1 pos) (tTup t) := by
  intro pins s σ H Q I hq
  refine wpAny_Tuple_spliced (thn (h pos pins s σ H _ I hq) fun us s1 ⟨xs, H1, I1, r, z, q⟩ => ⟨by rw [← r.length]; exact z, ?_⟩)
  have hf : H1 s1.heap.objs.size = none := I1.hok.fresh (Nat.le_refl _)
  refine ⟨.ref s1.heap.objs.size, upd H1 s1.heap.objs.size (.tup xs), I1.laid (t' := s1.toks) (fun b u e => Heap.get?_push_of_some _ e) (Nat.le_refl _) ?_, rfl, q _ hf⟩
  exact ⟨z, us, r, ⟨_, Heap.get?_push_size _ rfl, rfl, _, rfl⟩⟩
theorem pe_lst (h : PA X es t) : PE X (.List es pos) (tLst t) := by
  intro pins s σ H Q I hq
  refine wpAny_List_spliced (thn (h pos pins s σ H _ I hq) fun us s1 ⟨xs, H1, I1, r, z, q⟩ => ⟨by rw [← r.length]; exact z, ?_⟩)
  have hf : H1 s1.heap.objs.size = none := I1.hok.fresh (Nat.le_refl _)
  refine ⟨.ref s1.heap.objs.size, upd H1 s1.heap.objs.size (.lst xs), I1.laid (t' := s1.toks) (fun b u e => Heap.get?_push_of_some _ e) (Nat.le_refl _) ?_, rfl, q _ hf⟩
  exact ⟨z, us, 0, r, Heap.get?_push_size _ rfl⟩
end

/-! ### what a def promises -/
/-- a def's promise: the bound arguments in the parameters' order, the heap, the wanted end, the wanted exception -/
abbrev Sp := List V → Hp → VK → XK → Prop
/-- how an exception lies behind a call (file 08 gives it): the callers' frames, abstract heap and state ahead of the call, the wish, the exception, the state -/
abbrev CXT := List Env → Hp → Shared → XK → Value → Shared → Prop

/-- the state at a call -/
structure Env0 (P : Program) (w : World) (K : PySem.W.Frag) (mg : Str → Option Value) (base : Heap) (A : Around) (outer : List Env) (s : Shared) (H : Hp) : Prop where
  frames : A.frames = some outer
  mod : Mod K mg base
  bs : ∀ b o, base.get? b = some o → s.heap.get? b = some o ∧ H b = none
  bsz : base.objs.size ≤ s.heap.objs.size
  funs : s.heap.FunFrames base outer
  frf : ∀ b ∈ frs outer, H b = none
  hok : HOk P w H s.heap
  bare : AllBare s.gens
/-- a call's end -/
def CE (outer : List Env) (P : Program) (w : World) (H : Hp) (s : Shared) (Q : VK) (u : Value) (s' : Shared) : Prop :=
  ∃ v H', s'.os = s.os ∧ AllBare s'.gens ∧ Un (frs outer) [] H H' s.heap s'.heap ∧ HOk P w H' s'.heap ∧ RelV v u ∧ Q v H'
def CR (CX : CXT) (outer : List Env) (P : Program) (w : World) (H : Hp) (s : Shared) (Q : VK) (E : XK) (r : Result) (s' : Shared) : Prop :=
  match r with
  | .ok (.ret u) => CE outer P w H s Q u s'
  | .ok _ => False
  | .error e => CX outer H s E e s'
structure FnOk (P : Program) (w : World) (K : PySem.W.Frag) (mg : Str → Option Value) (base : Heap) (CX : CXT) (k : Nat) (f : Addr) (fd : FuncData) (ps : List Str) (sp : Sp) : Prop where
  len : ∀ vs H Q E, sp vs H Q E → vs.length = ps.length
  run : ∀ (A : Around) (outer : List Env) (s : Shared) (H : Hp) (args : Args) (us : List Value) (vs : List V) (Q : VK) (E : XK), Room k A → Env0 P w K mg base A outer s H → BindsTo s fd args (ps.zip us) → Vals vs us → sp vs H Q E →
    codeAny (model P w) A (.call (.ref f) args) (CR CX outer P w H s Q E) s
theorem FnOk.mono {P : Program} {w : World} {K : PySem.W.Frag} {mg : Str → Option Value} {base : Heap} {CX : CXT} {j k : Nat} {f : Addr} {fd : FuncData} {ps : List Str} {sp : Sp} (F : FnOk P w K mg base CX j f fd ps sp) (h : j ≤ k) :
    FnOk P w K mg base CX k f fd ps sp := ⟨F.len, fun A outer s H args us vs Q E hr => F.run A outer s H args us vs Q E (hr.mono h)⟩
/-- a weaker promise -/
theorem FnOk.imp {P : Program} {w : World} {K : PySem.W.Frag} {mg : Str → Option Value} {base : Heap} {CX : CXT} {k : Nat} {f : Addr} {fd : FuncData} {ps : List Str} {sp sp' : Sp} (F : FnOk P w K mg base CX k f fd ps sp)
    (h : ∀ vs H Q E, sp' vs H Q E → sp vs H Q E) : FnOk P w K mg base CX k f fd ps sp' :=
  ⟨fun vs H Q E q => F.len vs H Q E (h _ _ _ _ q), fun A outer s H args us vs Q E hr he hb hv hs => F.run A outer s H args us vs Q E hr he hb hv (h _ _ _ _ hs)⟩

theorem Env0.make {P : Program} {w : World} {K : PySem.W.Frag} {mg : Str → Option Value} {base : Heap} {A : Around} {outer : List Env} {s : Shared} {H : Hp} (e : Env0 P w K mg base A outer s H) (C : Addr) (us : List Value) (kw : List (Str × Value)) :
    Env0 P w K mg base (A.under (.builtin "type.__call__" ⟨.ref C :: us, kw⟩)) outer s H := ⟨by first | exact e.frames | (simpa [Around.under, Code.envs, Code.isFrame, pushEnvs] using e.frames), e.mod, e.bs, e.bsz, e.funs, e.frf, e.hok, e.bare⟩
theorem Env0.in1 {P : Program} {w : World} {K : PySem.W.Frag} {mg : Str → Option Value} {base : Heap} {A : Around} {outer : List Env} {s : Shared} {H : Hp} (e : Env0 P w K mg base A outer s H) :
    Env0 P w K mg base A.in1 outer s H := ⟨e.frames, e.mod, e.bs, e.bsz, e.funs, e.frf, e.hok, e.bare⟩

section
variable {X : Cx} {pins : List (Addr × Obj)} {σ : St} {H : Hp} {s s' : Shared}
/-- from a body: what a callee wants -/
theorem Inv.env0 (I : Inv X pins σ H s) : Env0 X.prog X.w X.K X.mg X.base X.A X.stack s H :=
  ⟨I.ok.frames, I.ok.mod, I.bs, Nat.le_trans I.ok.bsz I.sz, I.stack, I.stkFree, I.hok, I.bare⟩
/-- behind a call -/
theorem Inv.after {Q : VK} {u : Value} (I : Inv X pins σ H s) (h : CE X.stack X.prog X.w H s Q u s') : EP X pins σ Q u s' := by
  obtain ⟨v, H', os, bare, un, hok, r, q⟩ := h
  obtain ⟨hh, g, d, t, os'⟩ := s'
  obtain rfl : os' = s.os := os
  exact ⟨v, H', I.call (h' := hh) (g' := g) (d' := d) (t' := t) (ch := []) un hok bare (fun b z => absurd z (by simp)), r, q⟩
end

/-! ### calls -/
/-- f(..): the written arguments, then the defaults dvs; E: what is wanted of an exception -/
def tCall (sp : Sp) (dvs : List V) (E : XK) (t : TA) : TE := fun σ H Q => t σ H fun vs H1 => sp (vs ++ dvs) H1 Q E
/-- o.m(..) of an instance of the class at C -/
def tMeth (C : Addr) (m : Str) (sp : Sp) (dvs : List V) (E : XK) (ta : TE) (t : TA) : TE := fun σ H Q => ta σ H fun x H1 => ∃ a dx fs, x = .ref a ∧ H1 a = some (.ins C dx fs) ∧ fs.lookup m = none ∧
  t σ H1 fun vs H2 => sp (x :: (vs ++ dvs)) H2 Q E
/-- C(..): a new instance and its dict, then __init__ -/
def tMake (C : Addr) (sp : Sp) (dvs : List V) (E : XK) (t : TA) : TE := fun σ H Q => t σ H fun vs H1 => ∀ x dx, H1 x = none → H1 dx = none → dx ≠ x →
  sp (.ref x :: (vs ++ dvs)) (upd (upd H1 dx (.own x)) x (.ins C dx [])) (fun v H2 => v = .non ∧ Q (.ref x) H2) E

/-- how the parameters are bound: us the positional arguments, kw the keywords' values by name, ds the defaults that fill up -/
def Binds (K : PySem.W.Frag) (fd : FuncData) (ps : List Str) (ds : List Value) : Prop :=
  ∀ (s : Shared) (us : List Value), K.In s.heap → (us ++ ds).length = ps.length → BindsTo s fd ⟨us, []⟩ (ps.zip (us ++ ds))
/-- every parameter is given -/
theorem Binds.all {K : PySem.W.Frag} {fd : FuncData} {ps : List Str} (h : ∀ us : List Value, us.length = ps.length → bindArgs fd ⟨us, []⟩ = pure (ps.zip us)) : Binds K fd ps [] := fun s us _ hl => by
  rw [List.append_nil] at hl ⊢
  exact .of_eq (h us hl)

/-- an exception of a callee reaches what this body wants of exceptions -/
def Passes (CX : CXT) (X : Cx) (E : XK) : Prop := ∀ (pins : List (Addr × Obj)) (σ : St) (H : Hp) (s : Shared) (e : Value) (s' : Shared), Inv X pins σ H s → CX X.stack H s E e s' → X.xe e s'

section
variable {X : Cx} {CX : CXT} {k : Nat} {f C : Addr} {fd : FuncData} {ps : List Str} {sp : Sp} {dvs : List V} {ds : List Value} {E : XK} {x m : Str} {p pos apos : Pos} {e o : Expr} {es : List Expr} {ta : TE} {t : TA}

/-- the callee runs -/
theorem run_fn {pins : List (Addr × Obj)} {σ : St} {H : Hp} {s : Shared} {Q : VK} {us : List Value} {vs : List V} (F : FnOk X.prog X.w X.K X.mg X.base CX k f fd ps sp) (hr : Room k X.A) (hb : Binds X.K fd ps ds) (hd : Vals dvs ds) (hx : Passes CX X E)
    (I : Inv X pins σ H s) (r : Vals vs us) (h : sp (vs ++ dvs) H Q E) : wpAny (model X.prog X.w) X.A (call (.ref f) us) (EP X pins σ Q) X.xe s := by
  have r2 : Vals (vs ++ dvs) (us ++ ds) := r.append hd
  have hl : (us ++ ds).length = ps.length := by rw [← r2.length]; exact F.len _ _ _ _ h
  refine wpAny_call (codeAny_mono (F.run X.A X.stack s H ⟨us, []⟩ (us ++ ds) (vs ++ dvs) Q E hr I.env0 (hb s us I.kIn hl) r2 h) fun r s' hq => ?_)
  cases r with
  | error e => exact hx pins σ H s e s' I hq
  | ok fl =>
    cases fl with
    | ret u => exact I.after hq
    | next => exact False.elim hq
    | brk => exact False.elim hq
    | cont => exact False.elim hq

theorem pe_call (F : FnOk X.prog X.w X.K X.mg X.base CX k f fd ps sp) (hr : Room k X.A) (hg : Gl X x) (hm : X.mg x = some (.ref f)) (hk : PySem.W.keepIn X.K (.ref f) = true) (hb : Binds X.K fd ps ds) (hd : Vals dvs ds) (hx : Passes CX X E)
    (ha : PA X (e :: es) t) (hdb : (x == ("__debug__" : Str)) = false := by decide) (he : starEach (e :: es) X.env = (false, eval e X.env) :: starEach es X.env := by rfl) (hpl : (backTo pos (starEach es X.env)).any (·.1) = false := by rfl) :
    PE X (.Call (.Name x p) (e :: es) [] pos) (tCall sp dvs E t) := by
  intro pins s σ H Q I h
  refine wpAny_Call_Name_kw (ld_glob I hg hm ?_ hdb)
  refine PySem.W.callWith_K (h₀ := X.base) I.ok.mod.kin hk (thn (ha pos pins s σ H _ I h) fun us s1 ⟨vs, H1, I1, r, q⟩ => ⟨I1.kIn, ?_⟩) he hpl
  exact run_fn F hr hb hd hx I1 r q
theorem pe_call0 (F : FnOk X.prog X.w X.K X.mg X.base CX k f fd ps sp) (hr : Room k X.A) (hg : Gl X x) (hm : X.mg x = some (.ref f)) (hk : PySem.W.keepIn X.K (.ref f) = true) (hb : Binds X.K fd ps ds) (hd : Vals dvs ds) (hx : Passes CX X E)
    (hdb : (x == ("__debug__" : Str)) = false := by decide) : PE X (.Call (.Name x p) [] [] pos) (tCall sp dvs E tNil) := by
  intro pins s σ H Q I h
  refine wpAny_Call_Name_kw (ld_glob I hg hm ?_ hdb)
  exact PySem.W.callWith_K0 I.kIn hk (run_fn (us := []) F hr hb hd hx I .nil h)

/-- o.m(e, ..) -/
theorem pe_meth {pl : Sem Bool} (he : PE X o ta) (c : Cls X.K C) (hm : Meth X.K C m f) (F : FnOk X.prog X.w X.K X.mg X.base CX k f fd ps sp) (hr : Room k X.A) (hb : Binds X.K fd ps ds) (hd : Vals dvs ds) (hx : Passes CX X E) (ha : PA X (e :: es) t)
    (hst : starEach (e :: es) X.env = (false, eval e X.env) :: starEach es X.env := by rfl) (hpl : (backTo pos (starEach es X.env)).any (·.1) = false := by rfl)
    (ht : eval (.Call (.Attribute o m apos) (e :: es) [] pos) X.env = (do
      let ov ← eval o X.env
      standAt apos.atName
      let (f, first) ← holding [ov] (getMethod ov m pl)
      callWith pos f first (backTo pos (starEach (e :: es) X.env)) (backToKw pos (keywordEach [] X.env))) := by rfl) :
    PE X (.Call (.Attribute o m apos) (e :: es) [] pos) (tMeth C m sp dvs E ta t) := by
  intro pins s σ H Q I h
  refine PySem.W.methodCall_KW (pl := pl) (thn (he pins s σ H _ I h) fun u s1 ⟨x, H1, I1, rx, a, dx, fs, ex, ea, l, q⟩ => ?_) ht
  subst ex
  obtain rfl : u = Value.ref a := rx
  refine getmeth_ok I1 ea c hm l ?_
  refine PySem.W.callWith_K (first := [.ref a]) (h₀ := X.base) I.ok.mod.kin hm.kp (thn (ha pos pins s1 σ H1 _ I1 q) fun us s2 ⟨vs, H2, I2, r, q2⟩ => ⟨I2.kIn, ?_⟩) hst hpl
  exact run_fn (us := .ref a :: us) (vs := .ref a :: vs) F hr hb hd hx I2 (.cons rfl r) q2
/-- o.m() -/
theorem pe_meth0 {pl : Sem Bool} (he : PE X o ta) (c : Cls X.K C) (hm : Meth X.K C m f) (F : FnOk X.prog X.w X.K X.mg X.base CX k f fd ps sp) (hr : Room k X.A) (hb : Binds X.K fd ps ds) (hd : Vals dvs ds) (hx : Passes CX X E)
    (ht : eval (.Call (.Attribute o m apos) [] [] pos) X.env = (do
      let ov ← eval o X.env
      standAt apos.atName
      let (f, first) ← holding [ov] (getMethod ov m pl)
      callWith pos f first (backTo pos (starEach [] X.env)) (backToKw pos (keywordEach [] X.env))) := by rfl) :
    PE X (.Call (.Attribute o m apos) [] [] pos) (tMeth C m sp dvs E ta tNil) := by
  intro pins s σ H Q I h
  refine PySem.W.methodCall_KW (pl := pl) (thn (he pins s σ H _ I h) fun u s1 ⟨x, H1, I1, rx, a, dx, fs, ex, ea, l, q⟩ => ?_) ht
  subst ex
  obtain rfl : u = Value.ref a := rx
  refine getmeth_ok I1 ea c hm l ?_
  exact PySem.W.callWith_K0 (first := [.ref a]) I1.kIn hm.kp (run_fn (us := [.ref a]) (vs := [.ref a]) F hr hb hd hx I1 (.cons rfl .nil) q)

/-- what a class must have to be made -/
structure Mk (K : PySem.W.Frag) (C f : Addr) : Prop where
  makes : PySem.W.makesIn K C = true
  init : PySem.W.findIn K (.ref C) "__init__" = some (some (.ref f))
  fn : PySem.W.isFn K (.ref f) = true
  kp : PySem.W.keepIn K (.ref C) = true

theorem run_make {pins : List (Addr × Obj)} {σ : St} {H : Hp} {s : Shared} {Q : VK} {us : List Value} {vs : List V} (M : Mk X.K C f) (F : FnOk X.prog X.w X.K X.mg X.base CX k f fd ps sp) (hr : Room (k + 1) X.A) (hb : Binds X.K fd ps ds) (hd : Vals dvs ds)
    (hx : Passes CX X E) (I : Inv X pins σ H s) (r : Vals vs us)
    (h : ∀ x dx, H x = none → H dx = none → dx ≠ x → sp (.ref x :: (vs ++ dvs)) (upd (upd H dx (.own x)) x (.ins C dx [])) (fun v H2 => v = .non ∧ Q (.ref x) H2) E) :
    wpAny (model X.prog X.w) X.A (call (.ref C) us) (EP X pins σ Q) X.xe s := by
  have hq := h (s.heap.objs.size + 1) s.heap.objs.size (I.hok.fresh (Nat.le_succ _)) (I.hok.fresh (Nat.le_refl _)) (Nat.ne_of_lt (Nat.lt_succ_self _))
  have I2 := Inv.made (C := C) I
  have r2 : Vals (V.ref (s.heap.objs.size + 1) :: (vs ++ dvs)) (Value.ref (s.heap.objs.size + 1) :: (us ++ ds)) := .cons rfl (r.append hd)
  have hl : (Value.ref (s.heap.objs.size + 1) :: us ++ ds).length = ps.length := by
    have e := r2.length
    rw [F.len _ _ _ _ hq] at e
    exact e.symm
  refine wpAny_call (make_map (f := f) I.kIn M.makes M.init (beq_iff_eq.mp M.fn) (codeAny_mono (F.run _ X.stack _ _ ⟨Value.ref (s.heap.objs.size + 1) :: us, []⟩ (Value.ref (s.heap.objs.size + 1) :: (us ++ ds)) _ _ E (hr.make C us [])
    (I2.env0.make C us []) (hb _ (Value.ref (s.heap.objs.size + 1) :: us) I2.kIn hl) r2 hq) fun r s' hq' => ?_))
  cases r with
  | error e => exact hx pins σ _ _ e s' I2 hq'
  | ok fl =>
    cases fl with
    | ret u =>
      obtain ⟨v, H', I3, rv, ev, q3⟩ := I2.after hq'
      subst ev
      exact ⟨rv, ⟨V.ref (s.heap.objs.size + 1), H', I3, rfl, q3⟩⟩
    | next => exact False.elim hq'
    | brk => exact False.elim hq'
    | cont => exact False.elim hq'
theorem pe_make (M : Mk X.K C f) (F : FnOk X.prog X.w X.K X.mg X.base CX k f fd ps sp) (hr : Room (k + 1) X.A) (hg : Gl X x) (hm : X.mg x = some (.ref C)) (hb : Binds X.K fd ps ds) (hd : Vals dvs ds) (hx : Passes CX X E)
    (ha : PA X (e :: es) t) (hdb : (x == ("__debug__" : Str)) = false := by decide) (he : starEach (e :: es) X.env = (false, eval e X.env) :: starEach es X.env := by rfl) (hpl : (backTo pos (starEach es X.env)).any (·.1) = false := by rfl) :
    PE X (.Call (.Name x p) (e :: es) [] pos) (tMake C sp dvs E t) := by
  intro pins s σ H Q I h
  refine wpAny_Call_Name_kw (ld_glob I hg hm ?_ hdb)
  refine PySem.W.callWith_K (h₀ := X.base) I.ok.mod.kin M.kp (thn (ha pos pins s σ H _ I h) fun us s1 ⟨vs, H1, I1, r, q⟩ => ⟨I1.kIn, ?_⟩) he hpl
  exact run_make M F hr hb hd hx I1 r q
theorem pe_make0 (M : Mk X.K C f) (F : FnOk X.prog X.w X.K X.mg X.base CX k f fd ps sp) (hr : Room (k + 1) X.A) (hg : Gl X x) (hm : X.mg x = some (.ref C)) (hb : Binds X.K fd ps ds) (hd : Vals dvs ds) (hx : Passes CX X E)
    (hdb : (x == ("__debug__" : Str)) = false := by decide) : PE X (.Call (.Name x p) [] [] pos) (tMake C sp dvs E tNil) := by
  intro pins s σ H Q I h
  refine wpAny_Call_Name_kw (ld_glob I hg hm ?_ hdb)
  exact PySem.W.callWith_K0 I.kIn M.kp (run_make (us := []) M F hr hb hd hx I .nil h)
end

/-! ### keywords -/
/-- the values of the keywords, from the left -/
def PK (X : Cx) (kws : List Keyword) (t : TA) : Prop :=
  ∀ (pos : Pos) (pins : List (Addr × Obj)) (s : Shared) (σ : St) (H : Hp) (Q : List V → Hp → Prop), Inv X pins σ H s → t σ H Q → wpAny (model X.prog X.w) X.A (evalAll ((backToKw pos (keywordEach kws X.env)).map (·.2))) (AP X pins σ Q) X.xe s
section
variable {X : Cx} {CX : CXT} {k : Nat} {f C : Addr} {fd : FuncData} {ps ks : List Str} {sp : Sp} {E : XK} {x m : Str} {p pos apos kpos : Pos} {e o : Expr} {es : List Expr} {kws : List Keyword} {te ta : TE} {t tk : TA} {nm : Option Str}
theorem pk_nil : PK X [] tNil := fun _ _ _ _ H Q I h => wpAny_evalAll_nil ⟨[], H, I, .nil, h⟩
theorem pk_cons (ha : PE X e te) (hr : PK X kws t) : PK X (⟨nm, e, kpos⟩ :: kws) (tCons te t) := by
  intro pos pins s σ H Q I h
  show wpAny _ _ (evalAll ((do let v ← eval e X.env; standAt pos; pure v) :: (backToKw pos (keywordEach kws X.env)).map (·.2))) _ _ s
  refine wpAny_evalAll_cons (wpAny_bind (thn (ha pins s σ H _ I h) fun u s1 ⟨x, H1, I1, r1, q1⟩ => wpAny_bind (wpAny_standAt (wpAny_pure ?_))))
  exact thn (hr pos pins s1 σ H1 _ I1 q1) fun us s2 ⟨xs, H2, I2, r2, q2⟩ => ⟨x :: xs, H2, I2, .cons r1 r2, q2⟩

/-- how a call with keywords binds: g puts the positional values us and the keywords' values ws (names ks) in the parameters' order, defaults among them -/
structure KBinds (K : PySem.W.Frag) (fd : FuncData) (ps ks : List Str) (g : List Value → List Value → List Value) (gV : List V → List V → List V) : Prop where
  to : ∀ (s : Shared) (us ws : List Value), K.In s.heap → (g us ws).length = ps.length → BindsTo s fd ⟨us, ks.zip ws⟩ (ps.zip (g us ws))
  rel : ∀ {vs : List V} {us : List Value} {zs : List V} {ws : List Value}, Vals vs us → Vals zs ws → Vals (gV vs zs) (g us ws)
def tCallK (sp : Sp) (gV : List V → List V → List V) (E : XK) (t tk : TA) : TE := fun σ H Q => t σ H fun vs H1 => tk σ H1 fun zs H2 => sp (gV vs zs) H2 Q E
variable {g : List Value → List Value → List Value} {gV : List V → List V → List V}
theorem run_fnk {pins : List (Addr × Obj)} {σ : St} {H : Hp} {s : Shared} {Q : VK} {us ws : List Value} {vs zs : List V} (F : FnOk X.prog X.w X.K X.mg X.base CX k f fd ps sp) (hr : Room k X.A) (hb : KBinds X.K fd ps ks g gV) (hx : Passes CX X E)
    (I : Inv X pins σ H s) (r : Vals vs us) (rz : Vals zs ws) (h : sp (gV vs zs) H Q E) : wpAny (model X.prog X.w) X.A (call (.ref f) us (ks.zip ws)) (EP X pins σ Q) X.xe s := by
  have r2 := hb.rel r rz
  have hl : (g us ws).length = ps.length := by rw [← r2.length]; exact F.len _ _ _ _ h
  refine wpAny_call (codeAny_mono (F.run X.A X.stack s H ⟨us, ks.zip ws⟩ (g us ws) (gV vs zs) Q E hr I.env0 (hb.to s us ws I.kIn hl) r2 h) fun r s' hq => ?_)
  cases r with
  | error e => exact hx pins σ H s e s' I hq
  | ok fl =>
    cases fl with
    | ret u => exact I.after hq
    | next => exact False.elim hq
    | brk => exact False.elim hq
    | cont => exact False.elim hq
/-- f(e, .., k = v, ..) -/
theorem pe_callK (F : FnOk X.prog X.w X.K X.mg X.base CX k f fd ps sp) (hr : Room k X.A) (hg : Gl X x) (hm : X.mg x = some (.ref f)) (hk : PySem.W.keepIn X.K (.ref f) = true) (hb : KBinds X.K fd ps ks g gV) (hx : Passes CX X E)
    (ha : PA X (e :: es) t) (hkw : PK X kws tk) (hall : (backToKw pos (keywordEach kws X.env)).all (·.1.isSome) = true := by rfl) (hks : (backToKw pos (keywordEach kws X.env)).filterMap (·.1) = ks := by rfl)
    (hdb : (x == ("__debug__" : Str)) = false := by decide) (he : starEach (e :: es) X.env = (false, eval e X.env) :: starEach es X.env := by rfl)
    (hpl : ((backTo pos (starEach (e :: es) X.env)).any (·.1) || (backToKw pos (keywordEach kws X.env)).any (·.1.isNone)) = false := by rfl) :
    PE X (.Call (.Name x p) (e :: es) kws pos) (tCallK sp gV E t tk) := by
  intro pins s σ H Q I h
  refine wpAny_Call_Name_kw (ld_glob I hg hm ?_ hdb)
  refine PySem.W.callWith_KW (h₀ := X.base) I.ok.mod.kin hk hall (thn (ha pos pins s σ H _ I h) fun us s1 ⟨vs, H1, I1, r, q⟩ => ?_) hpl he
  refine thn (hkw pos pins s1 σ H1 _ I1 q) fun ws s2 ⟨zs, H2, I2, rz, q2⟩ => ⟨I2.kIn, ?_⟩
  rw [hks]
  exact run_fnk F hr hb hx I2 r rz q2
end

/-! ### a def's body keeps its promise -/
/-- names: the parameters first -/
structure FnScope (N P : List Str) (sc : Scope) : Prop where
  kind : sc.kind = .function
  co : sc.isCoroutine = false
  gen : sc.isGenerator = false
  nd : N.Nodup
  pre : N.take P.length = P
  par : ∀ x ∈ P, sc.names.lookup x = some .local ∨ sc.names.lookup x = some .cell
  nofree : ∀ y ∈ sc.names, y.2 ≠ .free

theorem bindL_out {kindOf : Str → Option NameKind} {x : Str} : ∀ {binds : List (Str × Value)} {m : Str → Option Value}, (∀ v, (x, v) ∉ binds) → bindL kindOf binds m x = m x
  | [], _, _ => rfl
  | (n, v) :: r, m, h => by
    unfold bindL
    rw [bindL_out fun w hw => h w (List.mem_cons_of_mem _ hw)]
    split
    · have : x ≠ n := by rintro rfl; exact h v List.mem_cons_self
      simp [this]
    · rfl
theorem bindC_out {kindOf : Str → Option NameKind} {x : Str} : ∀ {binds : List (Str × Value)} {m : Str → Option Value}, (∀ v, (x, v) ∉ binds) → bindC kindOf binds m x = m x
  | [], _, _ => rfl
  | (n, v) :: r, m, h => by
    unfold bindC
    rw [bindC_out fun w hw => h w (List.mem_cons_of_mem _ hw)]
    split
    · rfl
    · have : x ≠ n := by rintro rfl; exact h v List.mem_cons_self
      simp [this]
theorem bindL_get {kindOf : Str → Option NameKind} {x : Str} {v : Value} : ∀ {P : List Str} {vs : List Value} {i : Nat} {m : Str → Option Value}, P.Nodup → P[i]? = some x → vs[i]? = some v → kindOf x = some .local →
    bindL kindOf (P.zip vs) m x = some v
  | [], _, _, _, _, h, _, _ => by simp at h
  | _ :: _, [], _, _, _, _, h, _ => by simp at h
  | p :: P, w :: vs, 0, m, nd, h1, h2, hk => by
    simp at h1 h2; subst h1; subst h2
    show bindL kindOf ((p, w) :: P.zip vs) m p = _
    unfold bindL
    rw [bindL_out fun v hv => (List.nodup_cons.mp nd).1 (List.of_mem_zip hv).1, if_pos hk]
    simp
  | p :: P, w :: vs, i + 1, m, nd, h1, h2, hk => by
    show bindL kindOf ((p, w) :: P.zip vs) m x = _
    unfold bindL
    exact bindL_get (i := i) (List.nodup_cons.mp nd).2 (by simpa using h1) (by simpa using h2) hk
theorem bindC_get {kindOf : Str → Option NameKind} {x : Str} {v : Value} : ∀ {P : List Str} {vs : List Value} {i : Nat} {m : Str → Option Value}, P.Nodup → P[i]? = some x → vs[i]? = some v → kindOf x ≠ some .local →
    bindC kindOf (P.zip vs) m x = some v
  | [], _, _, _, _, h, _, _ => by simp at h
  | _ :: _, [], _, _, _, _, h, _ => by simp at h
  | p :: P, w :: vs, 0, m, nd, h1, h2, hk => by
    simp at h1 h2; subst h1; subst h2
    show bindC kindOf ((p, w) :: P.zip vs) m p = _
    unfold bindC
    rw [bindC_out fun v hv => (List.nodup_cons.mp nd).1 (List.of_mem_zip hv).1, if_neg hk]
    simp
  | p :: P, w :: vs, i + 1, m, nd, h1, h2, hk => by
    show bindC kindOf ((p, w) :: P.zip vs) m x = _
    unfold bindC
    exact bindC_get (i := i) (List.nodup_cons.mp nd).2 (by simpa using h1) (by simpa using h2) hk

/-- the names' values at the entry -/
def start (N : List Str) (vs : List V) : St := vs.map some ++ List.replicate (N.length - vs.length) none

/-- the context of a def's body, at its entry; an exception leaves the frame, then lies as CX says -/
def cxOf (CX : CXT) (P : Program) (w : World) (K : PySem.W.Frag) (mg : Str → Option Value) (base : Heap) (N : List Str) (qual : Str) (scope : Scope) (f : Addr) (cd : Value) (A : Around) (outer : List Env) (s : Shared) (H : Hp) (E : XK) : Cx where
  prog := P
  w := w
  K := K
  mg := mg
  base := base
  A := A.deeper (envOfC qual scope s.heap.objs.size f cd)
  N := N
  s₀ := s
  H₀ := H
  env := envOfC qual scope s.heap.objs.size f cd
  outer := outer
  stack := envOfC qual scope s.heap.objs.size f cd :: outer
  ex := []
  calm := true
  fn := fun _ => true
  pn := []
  xe := fun e s' => wpAny (model P w) (A.deeper (envOfC qual scope s.heap.objs.size f cd)) (leaving (envOfC qual scope s.heap.objs.size f cd) e) (fun _ s'' => CX outer H s E e s'') (fun e' s'' => CX outer H s E e' s'') s'

theorem cell_has {sc : Scope} {n : Nat} {x : Str} (h : sc.names.lookup x = some .cell) : ∃ c, (cellsFrom n sc.names []).lookup x = some c := by
  have q := PySem.W.cellsFrom_some sc.names n [] (.inl h)
  exact Option.isSome_iff_exists.mp q

theorem inv_start {CX : CXT} {P : Program} {w : World} {K : PySem.W.Frag} {mg : Str → Option Value} {base : Heap} {N ps : List Str} {qual : Str} {scope : Scope} {f : Addr} {cd : Value} {A : Around} {outer : List Env} {s s1 : Shared} {H : Hp} {E : XK} {us : List Value} {vs : List V}
    (S : FnScope N ps scope) (hd : A.handled = none) (e0 : Env0 P w K mg base A outer s H) (hl : vs.length = ps.length) (r : Vals vs us)
    (x : InCallC s s.heap.objs.size (bindL (envOfC qual scope s.heap.objs.size f cd).kindOf (ps.zip us) fun _ => none) (cellsFrom (s.heap.objs.size + 1) scope.names []) (bindC (envOfC qual scope s.heap.objs.size f cd).kindOf (ps.zip us) fun _ => none) s1) :
    Inv (cxOf CX P w K mg base N qual scope f cd A outer s H E) [] (start N vs) H s1 := by
  have hpl : ps.length ≤ N.length := by have := congrArg List.length S.pre; rw [List.length_take] at this; omega
  obtain ⟨h1, tk, rfl, hk⟩ := x.done
  have noA : ∀ b : Addr, b ∉ (cxOf CX P w K mg base N qual scope f cd A outer s H E).ex := fun b z => absurd (show b ∈ ([] : List Addr) from z) (by simp)
  refine ⟨⟨e0.mod, S.kind, rfl, rfl, Nat.le_refl _, fun y z c h1 h2 => ?_, fun y hy => ?_, fun y c _ h => ?_, fun _ => hd, Around.frames_deeper e0.frames, .inr ⟨rfl, rfl⟩, fun b z => absurd z (noA b), e0.bs, e0.bsz, fun b _ _ => noA b, fun b z => absurd z (noA b), e0.funs, e0.frf⟩,
    rfl, e0.bare, Un.kept hk, ⟨_, x.toInCall.ns, fun i y v h1 h2 h3 => ?_⟩, fun y c h => ⟨_, x.cell y c h⟩, e0.hok.fresh (Nat.le_refl _), fun y c h => ?_, fun p hp => absurd (show p ∈ ([] : List (Addr × Obj)) from hp) (by simp), e0.hok.kept hk, ?_⟩
  · exact name_of_addr x.apart (PySem.mem_of_lookup h1) (PySem.mem_of_lookup h2)
  · have hy : scope.names.lookup y = some .cell ∨ scope.names.lookup y = some .free := hy
    rcases hy with hy | hy
    · exact cell_has hy
    · exact absurd rfl (S.nofree _ (PySem.mem_of_lookup hy))
  · exact Nat.le_of_lt (x.above y c (PySem.mem_of_lookup h))
  · have hi : i < vs.length := by
      unfold start at h2
      by_cases hi : i < vs.length
      · exact hi
      · rw [List.getElem?_append_right (by simpa using hi)] at h2
        rw [List.getElem?_replicate] at h2
        split at h2 <;> cases h2
    have ha : vs[i]? = some v := by
      unfold start at h2
      rw [List.getElem?_append_left (by simpa using hi), List.getElem?_map] at h2
      cases e : vs[i]? with
      | none => rw [e] at h2; cases h2
      | some a => rw [e] at h2; cases h2; rfl
    obtain ⟨u, hu, rv⟩ := r.get ha
    have hp : ps[i]? = some y := by
      rw [← S.pre, List.getElem?_take_of_lt (by omega)]; exact h1
    have ndP : ps.Nodup := by rw [← S.pre]; exact S.nd.sublist (List.take_sublist _ _)
    refine ⟨u, rv, ?_⟩
    rcases S.par y (List.mem_of_getElem? hp) with k | k
    · exact .inl ⟨k, bindL_get ndP hp hu k⟩
    · obtain ⟨c, e⟩ := cell_has (n := s.heap.objs.size + 1) k
      refine .inr ⟨.inl k, c, e, ?_⟩
      have q := x.cell y c e
      rw [bindC_get ndP hp hu (by show scope.names.lookup y ≠ _; rw [k]; decide)] at q
      exact q
  · exact e0.hok.fresh (Nat.le_of_lt (x.above y c (PySem.mem_of_lookup h)))
  · unfold start
    show _ = N.length
    rw [List.length_append, List.length_map, List.length_replicate]
    omega

/-- THE RULE: a def (or a method) of the text, by its body. The body's reading t is chosen for each entry; it is run at the parameters' values -/
theorem fn_of {CX : CXT} {P : Program} {w : World} {K : PySem.W.Frag} {mg : Str → Option Value} {base : Heap} {k : Nat} {f : Addr} {name qual : Str} {params : Arguments} {body : List Stmt} {scope : Scope} {dV kV doc pm cdv ct oc : Value} {an od : Option Addr}
    {osl : Array (Option Value)} {N ps : List Str} {sp : Sp} (lk : K.lookup f = some ⟨oc, od, .func (PySem.W.fnOf name qual params body scope dV kV doc pm an cdv ct), osl⟩) (hcd : PySem.W.codeIn K cdv qual = true) (S : FnScope N ps scope)
    (len : ∀ vs H Q E, sp vs H Q E → vs.length = ps.length)
    (hbody : ∀ (A : Around) (outer : List Env) (s : Shared) (H : Hp) (vs : List V) (Q : VK) (E : XK), Room k (A.deeper (envOfC qual scope s.heap.objs.size f cdv)) → sp vs H Q E →
      ∃ t, PSs (cxOf CX P w K mg base N qual scope f cdv A outer s H E) body t ∧ t { nx := fun _ H' => Q .non H', rt := Q } (start N vs) H) :
    FnOk P w K mg base CX (k + 1) f (PySem.W.fnOf name qual params body scope dV kV doc pm an cdv ct) ps sp := by
  refine ⟨len, fun A outer s H args us vs Q E hr e0 hb r hsp => ?_⟩
  have hl := len _ _ _ _ hsp
  have KX : K.In s.heap := e0.mod.kin.keeps fun b o e => (e0.bs b o e).1
  have lim : s.heap.NoLimit := e0.mod.nolimit.keeps fun b o e => (e0.bs b o e).1
  have hkind : ∀ y ∈ ps.zip us, scope.names.lookup y.1 = some .local ∨ (scope.names.lookup y.1 = some .cell ∧ ((cellsFrom (s.heap.objs.size + 1) scope.names []).lookup y.1).isSome = true) := fun ⟨n, v⟩ hy => by
    rcases S.par n (List.of_mem_zip hy).1 with q | q
    · exact .inl q
    · exact .inr ⟨q, PySem.W.cellsFrom_some _ _ _ (.inl q)⟩
  refine codeAny_call_function hr.depth (KX _ _ lk) rfl S.co S.gen rfl (PySem.W.codeRec_of KX hcd) (hb _ _ _ _ ?_)
  refine wpAny_newFunctionEnv_cells S.kind hkind fun env he s1 x => ?_
  subst he
  refine ⟨lim.keeps x.toInCall.keep, codeAny_func ?_⟩
  obtain ⟨t, ht, hq⟩ := hbody A outer s H vs Q E (hr.deeper _) hsp
  have I : Inv (cxOf CX P w K mg base N qual scope f cdv A outer s H E) [] (start N vs) H s1 := inv_start S hr.hd e0 hl r x
  refine wpAny_mono (ht [] s1 (start N vs) H _ I hq) (fun fl s' hs => ?_) fun e s' hs => hs
  have fin : ∀ {σ' : St} {H' : Hp} {v : V} {u : Value}, Inv (cxOf CX P w K mg base N qual scope f cdv A outer s H E) [] σ' H' s' → RelV v u → Q v H' → CE outer P w H s Q u s' :=
    fun {σ' H' v u} J rv q => ⟨v, H', J.os, J.bare, J.base, J.hok, rv, q⟩
  cases fl with
  | ret u =>
    obtain ⟨v, σ', H', J, rv, q⟩ := hs
    exact fin J rv q
  | next =>
    obtain ⟨σ', H', J, q⟩ := hs
    exact fin (v := V.non) (u := Value.none) J rfl q
  | brk =>
    obtain ⟨_, _, _, q⟩ := hs
    exact False.elim q
  | cont =>
    obtain ⟨_, _, _, q⟩ := hs
    exact False.elim q
end L2

namespace L2
open PySem PySem.Spec PyProof.Rows
section
variable {X : Cx} {x : Str} {p pos : Pos} {e : Expr} {es : List Expr} {t : TA} {id T : String} {r : List V → Hp → VK → Prop}

def tCB (r : List V → Hp → VK → Prop) (t : TA) : TE := fun σ H Q => t σ H fun vs H1 => r vs H1 Q
/-- f(e, ..), f a built-in function -/
theorem pe_callB (hc : CallR X (.builtin id) r) (hg : Gl X x) (hm : X.mg x = none) (hv : bootBuiltins x = some (.builtin id)) (ha : PA X (e :: es) t) (hn : x ≠ "__name__" := by decide) (hdb : (x == ("__debug__" : Str)) = false := by decide)
    (he : starEach (e :: es) X.env = (false, eval e X.env) :: starEach es X.env := by rfl) (hpl : (backTo pos (starEach es X.env)).any (·.1) = false := by rfl) : PE X (.Call (.Name x p) (e :: es) [] pos) (tCB r t) := by
  intro pins s σ H Q I h
  refine wpAny_Call_Name_kw (ld_blt I hg hm hv ?_ hn hdb)
  exact PyProof.Rows.callWith_builtin1 (thn (ha pos pins s σ H _ I h) fun us s1 ⟨vs, H1, I1, r1, q1⟩ => hc pins s1 σ H1 vs us Q I1 r1 q1) he hpl
/-- T(e, ..), T a built-in type -/
theorem pe_callTy (hc : CallR X (.type T) r) (hg : Gl X x) (hm : X.mg x = none) (hv : bootBuiltins x = some (.type T)) (ha : PA X (e :: es) t) (hn : x ≠ "__name__" := by decide) (hdb : (x == ("__debug__" : Str)) = false := by decide)
    (he : starEach (e :: es) X.env = (false, eval e X.env) :: starEach es X.env := by rfl) (hpl : (backTo pos (starEach es X.env)).any (·.1) = false := by rfl) : PE X (.Call (.Name x p) (e :: es) [] pos) (tCB r t) := by
  intro pins s σ H Q I h
  refine wpAny_Call_Name_kw (ld_blt I hg hm hv ?_ hn hdb)
  exact PyProof.Rows.callWith_type1 (thn (ha pos pins s σ H _ I h) fun us s1 ⟨vs, H1, I1, r1, q1⟩ => hc pins s1 σ H1 vs us Q I1 r1 q1) he hpl
/-- T() -/
theorem pe_callTy0 (hc : CallR X (.type T) r) (hg : Gl X x) (hm : X.mg x = none) (hv : bootBuiltins x = some (.type T)) (hn : x ≠ "__name__" := by decide) (hdb : (x == ("__debug__" : Str)) = false := by decide) :
    PE X (.Call (.Name x p) [] [] pos) (tCB r tNil) := by
  intro pins s σ H Q I h
  refine wpAny_Call_Name_kw (ld_blt I hg hm hv ?_ hn hdb)
  exact PyProof.Rows.callWith_type0 (hc pins s σ H [] [] Q I .nil h)
end
end L2

namespace HT
open PySem PyProof.Rows

/-- t < u of tuples of ints -/
def lexLt : List Int → List Int → Bool
  | [], [] => false
  | [], _ :: _ => true
  | _ :: _, [] => false
  | x :: xs, y :: ys => if x = y then lexLt xs ys else decide (x < y)
theorem lexLt_cons (x y : Int) (xs ys : List Int) : lexLt (x :: xs) (y :: ys) = if x = y then lexLt xs ys else decide (x < y) := rfl
theorem lexLt_nil_nil : lexLt [] [] = false := rfl
theorem lexLt_nil_cons (y : Int) (ys : List Int) : lexLt [] (y :: ys) = true := rfl
theorem lexLt_cons_nil (x : Int) (xs : List Int) : lexLt (x :: xs) [] = false := rfl

theorem eqAt_int (A : Around) (s : Shared) (a : Int) (t : Tok) (c : Int) (u : Tok) : ∃ e, SeqAt.EqAt A s (.int a t) (.int c u) e ∧ (e = true ↔ a = c) :=
  ⟨(a == c), SeqAt.EqAt.int_int a t c u, by simp⟩
theorem rcLt_int (A : Around) (s : Shared) (a : Int) (t : Tok) (c : Int) (u : Tok) (prog : Program) (w : World) (E : Value → Shared → Prop) (Q : Value → Shared → Prop) (h : Q (.bool (decide (a < c))) s) :
    wpAny (model prog w) A (richCompare .Lt (.int a t) (.int c u)) Q E s :=
  (PyProof.Rows.lt_int h : wpAny (model prog w) A (compareOp .Lt (.int a t) (.int c u)) Q E s)

section
open PySem.SeqAt
open PySem.AutoSeq1 (wpAny_loadPart')
open PySem.MeetsSeq PySem.MeetsSeq2 PySem.MeetsSeq3

theorem tuple_lt_ints (l b : Addr) (items items2 : Array Value) (n n2 : Nat) (dd dd2 : Option Addr) (sl sl2 : Array (Option Value)) (ns ms : List Int) (hi : IntsAre items.toList ns) (hj : IntsAre items2.toList ms) :
    Meets (Builtin.«tuple.__lt__» ⟨[.ref l, .ref b], []⟩)
      (fun _ R s => s.heap.get? l = some { cls := .type "tuple", dict := dd, data := .seq items n, slots := sl } ∧ s.heap.get? b = some { cls := .type "tuple", dict := dd2, data := .seq items2 n2, slots := sl2 } ∧
        R (.ok (.ret (.bool (lexLt ns ms)))) s) :=
  .of_wp fun prog w A R s h => by
    obtain ⟨hp, g, d, tk, os⟩ := s; obtain ⟨hl, hb, h⟩ := h
    have f2 := AutoSeq1.sub_tuple_tuple
    have z1 : items.size = ns.length := by rw [← hi.length]; simp
    have z2 : items2.size = ms.length := by rw [← hj.length]; simp
    wp_walk using wpAny_loadPart' hl, wpAny_loadPart' hb, wpAny_forIn_list _ (fun rest b s' => b.1 = none ∧ s' = ⟨hp, g, d, tk, os⟩ ∧ ∃ (vs ws : List Value) (ns' ms' : List Int), rest = vs.zip ws ∧
      IntsAre vs ns' ∧ IntsAre ws ms' ∧ ns'.length + items2.size = ms'.length + items.size ∧ R (.ok (.ret (.bool (lexLt ns' ms')))) ⟨hp, g, d, tk, os⟩) _
    case turn =>
      rintro ⟨y, x⟩ rest b s' ⟨hb', rfl, vs, ws, ns', ms', hz, hvi, hwi, hlen, hR⟩
      cases hvi with
      | nil => rw [List.zip_nil_left] at hz; cases hz
      | cons a t hvi' =>
        cases hwi with
        | nil => rw [List.zip_nil_right] at hz; cases hz
        | cons c u hwi' =>
          rw [List.zip_cons_cons] at hz
          injection hz with hyx hrest
          injection hyx with hy hx
          subst hy hx
          rw [lexLt_cons] at hR
          simp only [List.length_cons] at hlen
          obtain ⟨e, he, hiff⟩ := eqAt_int A.in1 ⟨hp, g, d, tk, os⟩ a t c u
          refine wpAny_bind (he prog w _ _ ?_)
          cases e with
          | true =>
            rw [if_pos (hiff.mp rfl)] at hR
            wp_walk
            exact ⟨rfl, rfl, _, _, _, _, hrest, hvi', hwi', by omega, hR⟩
          | false =>
            rw [if_neg (fun q => absurd (hiff.mpr q) Bool.false_ne_true)] at hR
            have hri := rcLt_int A.in1 ⟨hp, g, d, tk, os⟩ a t c u prog w
            wp_walk using hri
            exact ⟨_, rfl, by simpa using hR⟩
    case fin =>
      rintro ⟨b1, b2⟩ s' ⟨hb', rfl, vs, ws, ns', ms', hz, hvi, hwi, hlen, hR⟩
      simp only at hb'
      subst hb'
      have hv : lexLt ns' ms' = decide (items.size < items2.size) := by
        cases hvi with
        | nil =>
          cases hwi with
          | nil =>
            simp only [List.length_nil] at hlen
            rw [lexLt_nil_nil]
            exact (decide_eq_false (by omega)).symm
          | cons c u hw =>
            simp only [List.length_nil, List.length_cons] at hlen
            rw [lexLt_nil_cons]
            exact (decide_eq_true (by omega)).symm
        | cons a t hv =>
          cases hwi with
          | nil =>
            simp only [List.length_nil, List.length_cons] at hlen
            rw [lexLt_cons_nil]
            exact (decide_eq_false (by omega)).symm
          | cons c u hw =>
            rw [List.zip_cons_cons] at hz
            cases hz
      rw [hv] at hR
      wp_walk
      exact ⟨_, rfl, by simpa [Builtin.Tuple.tupleCompareSizes] using hR⟩
    case h =>
      exact ⟨rfl, rfl, items.toList, items2.toList, ns, ms, rfl, hi, hj, by omega, h⟩
end

section
variable {prog : Program} {w : World} {A : Around} {E : Value → Shared → Prop} {s : Shared}

theorem lt_tupInts {l b : Addr} {items items2 : Array Value} {ns ms : List Int} {Q : Value → Shared → Prop} (hl : IsTup s.heap l items) (hb : IsTup s.heap b items2) (hi : IntsAre items.toList ns) (hj : IntsAre items2.toList ms)
    (hu : A.units < cLine) (h : Q (.bool (lexLt ns ms)) s) : wpAny (model prog w) A (compareOp .Lt (.ref l) (.ref b)) Q E s := by
  obtain ⟨⟨cls, dd, data, sl⟩, ho, hc, n, hd⟩ := id hl
  obtain ⟨⟨cls2, dd2, data2, sl2⟩, ho2, hc2, n2, hd2⟩ := id hb
  simp only at hc hd hc2 hd2
  subst hc hd hc2 hd2
  exact richCompare_meets_room (op := .Lt) ⟨_, ho, rfl⟩ ⟨_, ho2, rfl⟩ PySem.F.slot_tuple_lt PySem.F.entry_tuple_lt (PySem.F.args_tuple_lt_2 _ _) (tuple_lt_ints l b items items2 n n2 dd dd2 sl sl2 ns ms hi hj)
    ⟨ho, ho2, show Value.bool (lexLt ns ms) ≠ Value.notImplemented ∧ Q (.bool (lexLt ns ms)) s from ⟨(fun x => nomatch x), h⟩⟩ hu

/-- t + u, t not empty -/
theorem cat_tup {t b : Addr} {vs ws : List Value} {Q : Value → Shared → Prop} (ht : IsTup s.heap t vs.toArray) (hb : IsTup s.heap b ws.toArray) (hv : vs ≠ [])
    (h1 : ws = [] → Q (.ref t) s) (h2 : ws ≠ [] → Q (.ref s.heap.objs.size) { s with heap := s.heap.push { cls := .type "tuple", data := .seq (vs ++ ws).toArray } })
    (hsz : vs.length + ws.length ≤ sizeLine) : wpAny (model prog w) A (binaryOp .Add (.ref t) (.ref b)) Q E s := by
  obtain ⟨⟨cls, dd, data, sl⟩, ho, hc, n, hd⟩ := id ht
  obtain ⟨⟨cls2, dd2, data2, sl2⟩, ho2, hc2, n2, hd2⟩ := id hb
  simp only at hc hd hc2 hd2
  subst hc hd hc2 hd2
  have e : vs.toArray ++ ws.toArray = (vs ++ ws).toArray := by simp
  by_cases hw : ws = []
  · exact concat_meets ⟨_, ho, rfl⟩ ⟨_, ho2, rfl⟩ noFill_tuple_add seq_tuple_add PySem.F.slot_tuple_add PySem.F.entry_tuple_add (PySem.F.args_tuple_add_2 _ _)
      (tuple_addW1 t b vs.toArray ws.toArray n n2 dd dd2 sl sl2 (by simpa using hv) (by simp [hw])) ⟨ho, ho2, h1 hw⟩
  · refine concat_meets ⟨_, ho, rfl⟩ ⟨_, ho2, rfl⟩ noFill_tuple_add seq_tuple_add PySem.F.slot_tuple_add PySem.F.entry_tuple_add (PySem.F.args_tuple_add_2 _ _)
      (tuple_addW2 t b vs.toArray ws.toArray n n2 dd dd2 sl sl2 (by simpa using hv) (by simpa using hw) (by rw [List.size_toArray, List.size_toArray]; exact hsz)) ⟨ho, ho2, ?_⟩
    rw [e]
    exact h2 hw

/-! ### t[a:b], not the whole -/
/-- a slice's bound as a place among n (d where it is left out) -/
def sIx (n d : Nat) : Option Int → Nat
  | none => d
  | some v => if v < 0 then (v + (n : Int)).toNat else min v.toNat n
theorem sIx_none (n d : Nat) : sIx n d none = d := rfl
theorem sIx_nat (n d k : Nat) : sIx n d (some (k : Int)) = min k n := by
  show (if (k : Int) < 0 then ((k : Int) + (n : Int)).toNat else min (k : Int).toNat n) = min k n
  rw [if_neg (by omega), Int.toNat_natCast]
theorem sIx_le (n d : Nat) (hd : d ≤ n) (o : Option Int) : sIx n d o ≤ n := by
  cases o with
  | none => exact hd
  | some v =>
    show (if v < 0 then (v + (n : Int)).toNat else min v.toNat n) ≤ n
    by_cases hv : v < 0
    · rw [if_pos hv]; omega
    · rw [if_neg hv]; exact Nat.min_le_right _ _
theorem clip_eq (v : Int) (n d : Nat) : (if v < 0 then max (v + (n : Int)) 0 else min v (n : Int)) = ((sIx n d (some v) : Nat) : Int) := by
  show (if v < 0 then max (v + (n : Int)) 0 else min v (n : Int)) = (((if v < 0 then (v + (n : Int)).toNat else min v.toNat n) : Nat) : Int)
  by_cases hv : v < 0
  · simp only [if_pos hv]; omega
  · simp only [if_neg hv]; omega
theorem adjust_gen (lo hi : Option Int) (n : Nat) : Builtin.Slice.sliceAdjust lo hi 1 (n : Int) = (((sIx n 0 lo : Nat) : Int), ((sIx n n hi : Nat) : Int)) := by
  have h1 : ¬ ((1 : Int) < 0) := by omega
  unfold Builtin.Slice.sliceAdjust
  simp only [h1, if_false]
  refine Prod.ext ?_ ?_
  · cases lo with
    | none => rfl
    | some v => exact clip_eq v n 0
  · cases hi with
    | none => rfl
    | some v => exact clip_eq v n n
theorem places_gen (i j : Nat) : Builtin.Slice.slicePlaces (i : Int) (j : Int) 1 = j - i := by
  unfold Builtin.Slice.slicePlaces
  have h1 : (1 : Int) > 0 := by omega
  simp only [h1, if_true, Int.ediv_one]
  split <;> omega
theorem slicePart_ {v : Value} {o : Option Int} {Q : Option Int → Shared → Prop} (p : IsPart v o) (h : Q o s) : wpAny (model prog w) A (Builtin.Slice.slicePartIndex v) Q E s := by
  cases p with
  | none => exact slicePart_none h
  | int i t => exact slicePart_int h
theorem sliceApplied_gen {sl : Addr} {vl vu : Value} {lo hi : Option Int} {n : Nat} {Q : Int × Int × Nat → Shared → Prop} (hs : s.heap.IsSliceOf sl vl vu .none) (pl : IsPart vl lo) (pu : IsPart vu hi)
    (h : Q (((sIx n 0 lo : Nat) : Int), 1, sIx n n hi - sIx n 0 lo) s) : wpAny (model prog w) A (Builtin.Slice.sliceApplied (.ref sl) (pure (n : Int))) Q E s := by
  obtain ⟨os, hos, hcs, hds⟩ := id hs
  unfold Builtin.Slice.sliceApplied Builtin.Slice.sliceFields
  refine wpAny_bind (wpAny_bind (wpAny_field hos hds (x := vl) rfl (wpAny_bind (wpAny_field hos hds (x := vu) rfl (wpAny_bind (wpAny_field hos hds (x := .none) rfl (wpAny_pure ?_)))))))
  refine wpAny_bind (slicePart_none ?_)
  show wpAny _ _ (if ((1 : Int) == 0) = true then _ else _) _ _ s
  rw [if_neg (by decide)]
  refine wpAny_bind (slicePart_ pl (wpAny_bind (slicePart_ pu (wpAny_bind (wpAny_pure ?_)))))
  show wpAny _ _ (match Builtin.Slice.sliceAdjust lo hi 1 (n : Int) with | (lo, hi) => pure (lo, (1 : Int), Builtin.Slice.slicePlaces lo hi 1)) _ _ s
  rw [adjust_gen lo hi n]
  show wpAny _ _ (pure (((sIx n 0 lo : Nat) : Int), (1 : Int), Builtin.Slice.slicePlaces ((sIx n 0 lo : Nat) : Int) ((sIx n n hi : Nat) : Int) 1)) _ _ s
  rw [places_gen]
  exact wpAny_pure h
theorem pick_gen (xs : Array Value) (i k : Nat) : ((List.range k).filterMap fun (m : Nat) => xs[((i : Int) + (m : Int) * 1).toNat]?).toArray = ((xs.toList.drop i).take k).toArray := by
  have e : (fun (m : Nat) => xs[((i : Int) + (m : Int) * 1).toNat]?) = fun m => xs[i + m]? := by
    funext m
    have : ((i : Int) + (m : Int) * 1).toNat = i + m := by omega
    rw [this]
  rw [e]
  have := pick_run xs i k
  rw [List.filterMap_map] at this
  have e2 : ((fun x => xs[x]?) ∘ fun x => i + x) = fun m => xs[i + m]? := rfl
  rw [e2] at this
  rw [this]

theorem getItem_tuple_cut {t sl : Addr} {items : Array Value} {vl vu : Value} {lo hi : Option Int} {Q : Value → Shared → Prop} (ht : IsTup s.heap t items) (hs : s.heap.IsSliceOf sl vl vu .none) (pl : IsPart vl lo) (pu : IsPart vu hi)
    (hw : ¬ (sIx items.size 0 lo = 0 ∧ sIx items.size items.size hi = items.size))
    (h : Q (.ref s.heap.objs.size) { s with heap := s.heap.push { cls := .type "tuple", data := .seq ((items.toList.drop (sIx items.size 0 lo)).take (sIx items.size items.size hi - sIx items.size 0 lo)).toArray } })
    (hsz : items.size ≤ sizeLine) : wpAny (model prog w) A (getItem (.ref t) (.ref sl)) Q E s := by
  have htake : sizeOk (.seq ((items.toList.drop (sIx items.size 0 lo)).take (sIx items.size items.size hi - sIx items.size 0 lo)).toArray) := by
    show ((items.toList.drop (sIx items.size 0 lo)).take (sIx items.size items.size hi - sIx items.size 0 lo)).toArray.size ≤ sizeLine
    rw [List.size_toArray, List.length_take, List.length_drop, Array.length_toList]
    omega
  have hj : sIx items.size items.size hi ≤ items.size := sIx_le _ _ (Nat.le_refl _) hi
  obtain ⟨os, hos, hcs, hds⟩ := id hs
  have hTs : s.TypeIs (.ref sl) "slice" := ⟨os, hos, hcs⟩
  unfold getItem
  try with_reducible refine wpAny_holding ?_
  first | refine wpAny_bind (wpAny_pure ?_) | skip
  refine wpAny_bind (wpAny_sequenceKey ht.typeIs (by decide) ?_)
  refine wpAny_bind (wpAny_callSpecial?_slot (name := Str.ofString "__getitem__") ht.typeIs PyProof.Rows.slot_tuple_getitem
    (wpAny_call_entry PyProof.Rows.slot_tuple_getitem ht.typeIs entry_tuple_getitem ?_ (args_tuple_getitem _ _)))
  show wpAny _ _ (Builtin.Tuple.tupleItemsOf (.ref t) >>= _) _ _ s
  refine wpAny_bind (tupleItemsOf_ ht ?_)
  refine wpAny_bind (wpAny_typeOf hTs ?_)
  rw [if_pos (by decide)]
  refine wpAny_bind (sliceApplied_gen hs pl pu ?_)
  have hno : ¬ ((((sIx items.size 0 lo : Nat) : Int) == 0 && (1 : Int) == 1 && (sIx items.size items.size hi - sIx items.size 0 lo) == items.size) = true) := by
    intro q
    rw [Bool.and_eq_true, Bool.and_eq_true] at q
    have q1 : ((sIx items.size 0 lo : Nat) : Int) = 0 := eq_of_beq q.1.1
    have q2 : sIx items.size items.size hi - sIx items.size 0 lo = items.size := eq_of_beq q.2
    exact hw ⟨by omega, by omega⟩
  show wpAny _ _ (if (((sIx items.size 0 lo : Nat) : Int) == 0 && (1 : Int) == 1 && (sIx items.size items.size hi - sIx items.size 0 lo) == items.size) = true then _ else _) _ _ s
  rw [if_neg hno, pick_gen]
  first
    | exact wpAny_bind (m := Builtin.Tuple.tupleExact _) (wpAny_newObj_type (wpAny_pure ⟨_, rfl, wpAny_pure h⟩) htake)
    | exact wpAny_bind (m := Builtin.Tuple.tupleExact _) (wpAny_newObj_type (wpAny_bind (wpAny_pure (wpAny_pure ⟨_, rfl, wpAny_pure h⟩))) htake)
    | exact wpAny_bind (wpAny_bind (m := Builtin.Tuple.tupleExact _) (wpAny_newObj_type (wpAny_pure (wpAny_pure ⟨_, rfl, wpAny_pure h⟩)) htake))
    | exact wpAny_bind (wpAny_bind (m := Builtin.Tuple.tupleExact _) (wpAny_newObj_type (wpAny_pure ⟨_, rfl, wpAny_pure h⟩) htake))
end
end HT

namespace L2
open PySem PySem.Spec PyProof.Rows

/-! ### the parts of a slice -/
abbrev TO := St → Hp → (Option Int → Hp → Prop) → Prop
/-- a slice's part (left out, or an int) -/
def PO (X : Cx) (e : Option Expr) (t : TO) : Prop :=
  ∀ (pins : List (Addr × Obj)) (s : Shared) (σ : St) (H : Hp) (Q : Option Int → Hp → Prop), Inv X pins σ H s → t σ H Q →
    wpAny (model X.prog X.w) X.A (evalPart e X.env) (fun u s' => ∃ o H', Inv X pins σ H' s' ∧ IsPart u o ∧ Q o H') X.xe s
def tNoPart : TO := fun _ H Q => Q none H
def tPart (t : TE) : TO := fun σ H Q => t σ H fun x H1 => ∃ i, x = .int i ∧ Q (some i) H1

theorem intsAre_of {ns : List Int} : ∀ {us : List Value}, Vals (ns.map V.int) us → IntsAre us ns := by
  induction ns with
  | nil => intro us r; rw [List.map_nil] at r; cases r; exact .nil
  | cons n ns ih =>
    intro us r
    rw [List.map_cons] at r
    cases r with
    | cons r1 r2 =>
      obtain ⟨t, e⟩ := r1
      subst e
      exact .cons n t (ih r2)

section
variable {X : Cx} {e : Expr} {te : TE} {lo hi : Option Expr} {tl th : TO} {pos p2 : Pos}

theorem po_none : PO X none tNoPart := by
  intro pins s σ H Q I h
  rw [evalPart_none]
  exact wpAny_pure ⟨none, H, I, .none, h⟩
theorem po_some (h : PE X e te) : PO X (some e) (tPart te) := by
  intro pins s σ H Q I hw
  rw [evalPart_some]
  refine thn (h pins s σ H _ I hw) fun u s1 ⟨x, H1, I1, r1, q1⟩ => ?_
  obtain ⟨i, rfl, q⟩ := q1
  obtain ⟨t, rfl⟩ := r1
  exact ⟨some i, H1, I1, .int i t, q⟩

/-- what a slice of a value is, by values: the slice object stands at sl -/
def SlR (X : Cx) (r : V → Option Int → Option Int → Hp → VK → Prop) : Prop :=
  ∀ (pins : List (Addr × Obj)) (s : Shared) (σ : St) (H : Hp) (x : V) (v vl vu : Value) (lo hi : Option Int) (sl : Addr) (Q : VK), Inv X pins σ H s → RelV x v → s.heap.IsSliceOf sl vl vu .none → IsPart vl lo → IsPart vu hi → r x lo hi H Q →
    ∃ T id, typeLookup (.type T) "__getitem__" = pure (some (.builtin id)) ∧ s.TypeIs v T ∧ wpAny (model X.prog X.w) X.A (getItem v (.ref sl)) (EP X pins σ Q) X.xe s
theorem SlR.or {r r' : V → Option Int → Option Int → Hp → VK → Prop} (h : SlR X r) (h' : SlR X r') : SlR X (fun x lo hi H Q => r x lo hi H Q ∨ r' x lo hi H Q) := by
  intro pins s σ H x v vl vu lo hi sl Q I rx hs pl pu q
  rcases q with q | q
  · exact h pins s σ H x v vl vu lo hi sl Q I rx hs pl pu q
  · exact h' pins s σ H x v vl vu lo hi sl Q I rx hs pl pu q
def tSl (r : V → Option Int → Option Int → Hp → VK → Prop) (te : TE) (tl th : TO) : TE := fun σ H Q => te σ H fun x H1 => tl σ H1 fun l H2 => th σ H2 fun u H3 => r x l u H3 Q
/-- a[lo:hi], any a -/
theorem pe_slice {r : V → Option Int → Option Int → Hp → VK → Prop} (hr : SlR X r) (he : PE X e te) (hl : PO X lo tl) (hu : PO X hi th) : PE X (.Subscript e (.Slice lo hi none p2) pos) (tSl r te tl th) := by
  intro pins s σ H Q I h
  refine Subscript_ (thn (he pins s σ H _ I h) fun v s1 ⟨x, H1, I1, r1, q1⟩ => ?_)
  refine wpAny_Slice (thn (hl pins s1 σ H1 _ I1 q1) fun vl s2 ⟨l, H2, I2, pl, q2⟩ => thn (hu pins s2 σ H2 _ I2 q2) fun vu s3 ⟨u, H3, I3, pu, q3⟩ => ?_)
  rw [evalPart_none]
  refine wpAny_pure ?_
  have I4 : Inv X pins σ H3 { s3 with heap := s3.heap.push { cls := .type "slice", data := .fields #[vl, vu, .none] } } := I3.kept (t' := s3.toks) fun b ob q => Heap.get?_push_of_some _ q
  obtain ⟨T, id, hT, ht, hg⟩ := hr pins { s3 with heap := s3.heap.push { cls := .type "slice", data := .fields #[vl, vu, .none] } } σ H3 x v vl vu l u s3.heap.objs.size Q I4 r1 (Heap.IsSliceOf.new ..) pl pu q3
  show wpAny (model X.prog X.w) X.A (subscriptTail e (.Slice lo hi none p2) v (.ref s3.heap.objs.size)) (EP X pins σ Q) X.xe { s3 with heap := s3.heap.push { cls := .type "slice", data := .fields #[vl, vu, .none] } }
  exact tail_any (ops := [.ref s3.heap.objs.size, v]) ht hT hg (by with_unfolding_all rfl)

/-- the items of xs[lo:hi] -/
def cutV (xs : List V) (lo hi : Option Int) : List V := (xs.drop (HT.sIx xs.length 0 lo)).take (HT.sIx xs.length xs.length hi - HT.sIx xs.length 0 lo)
theorem cutV_length (xs : List V) (lo hi : Option Int) : (cutV xs lo hi).length ≤ xs.length := by
  unfold cutV
  rw [List.length_take, List.length_drop]
  omega
/-- t[lo:hi], not the whole of it (the whole would be t itself) -/
def rSlT (K : PySem.W.Frag) : V → Option Int → Option Int → Hp → VK → Prop := fun x lo hi H Q => ∃ a xs, x = .ref a ∧ SqT K H a xs ∧
  ¬ (HT.sIx xs.length 0 lo = 0 ∧ HT.sIx xs.length xs.length hi = xs.length) ∧ ∀ p, H p = none → Q (.ref p) (upd H p (.tup (cutV xs lo hi)))
theorem sl_tup : SlR X (rSlT X.K) := by
  intro pins s σ H x v vl vu lo hi sl Q I rx hs pl pu h
  obtain ⟨a, xs, rfl, hx, hw, q⟩ := h
  cases rx
  obtain ⟨its, r, ht, hz⟩ := I.tuple hx
  have hlen : its.toArray.size = xs.length := by rw [List.size_toArray]; exact r.length.symm
  refine ⟨"tuple", _, PyProof.Rows.slot_tuple_getitem.lookup, ht.typeIs, ?_⟩
  refine HT.getItem_tuple_cut ht hs pl pu (by rw [hlen]; exact hw) ?_ (by rw [hlen]; exact hz)
  rw [hlen]
  refine ⟨.ref s.heap.objs.size, _, I.laid (t' := s.toks) (o := .tup (cutV xs lo hi)) (fun b ob q => Heap.get?_push_of_some _ q) (Nat.le_refl _) ?_, rfl, q _ (I.hok.fresh (Nat.le_refl _))⟩
  exact ⟨Nat.le_trans (cutV_length xs lo hi) hz, _, (r.drop (HT.sIx xs.length 0 lo)).take (HT.sIx xs.length xs.length hi - HT.sIx xs.length 0 lo), IsTup.new _ _⟩

/-! ### t < u, t + u -/
def rLtT (K : PySem.W.Frag) : R2 := fun x y H Q => ∃ a b ns ms, x = .ref a ∧ y = .ref b ∧ SqT K H a (ns.map V.int) ∧ SqT K H b (ms.map V.int) ∧ Q (.bl (HT.lexLt ns ms)) H
theorem op_ltT (hu : X.A.units < cLine) : OpR X (compareOp .Lt) (rLtT X.K) := by
  intro pins s σ H x y v u Q I rx ry h
  obtain ⟨a, b, ns, ms, rfl, rfl, ha, hb, q⟩ := h
  cases rx
  cases ry
  obtain ⟨its, r1, p1, _⟩ := I.tuple ha
  obtain ⟨its2, r2, p2, _⟩ := I.tuple hb
  have i1 : IntsAre its.toArray.toList ns := intsAre_of r1
  have i2 : IntsAre its2.toArray.toList ms := intsAre_of r2
  exact HT.lt_tupInts p1 p2 i1 i2 hu ⟨.bl (HT.lexLt ns ms), H, I, rfl, q⟩
/-- t + u, t not empty: u empty gives t itself -/
def rCatT (K : PySem.W.Frag) : R2 := fun x y H Q => ∃ a b xs ys, x = .ref a ∧ y = .ref b ∧ SqT K H a xs ∧ SqT K H b ys ∧ xs ≠ [] ∧ xs.length + ys.length ≤ sizeLine ∧
  (ys = [] → Q (.ref a) H) ∧ (ys ≠ [] → ∀ p, H p = none → Q (.ref p) (upd H p (.tup (xs ++ ys))))
theorem Vals.nil_iff {xs : List V} {us : List Value} (r : Vals xs us) : us = [] ↔ xs = [] := by
  cases r with
  | nil => simp
  | cons _ _ => simp
theorem op_catT : OpR X (binaryOp .Add) (rCatT X.K) := by
  intro pins s σ H x y v u Q I rx ry h
  obtain ⟨a, b, xs, ys, rfl, rfl, ha, hb, hx, hz, q1, q2⟩ := h
  cases rx
  cases ry
  obtain ⟨its, r1, p1, _⟩ := I.tuple ha
  obtain ⟨its2, r2, p2, _⟩ := I.tuple hb
  refine HT.cat_tup p1 p2 (fun z => hx (r1.nil_iff.mp z)) (fun z => ⟨.ref a, H, I, rfl, q1 (r2.nil_iff.mp z)⟩) (fun z => ?_) (by rw [← r1.length, ← r2.length]; exact hz)
  refine ⟨.ref s.heap.objs.size, _, I.laid (t' := s.toks) (o := .tup (xs ++ ys)) (fun b ob q => Heap.get?_push_of_some _ q) (Nat.le_refl _) ?_, rfl, q2 (fun w => z (r2.nil_iff.mpr w)) _ (I.hok.fresh (Nat.le_refl _))⟩
  exact ⟨by rw [List.length_append]; exact hz, _, r1.append r2, IsTup.new _ _⟩
/-- tuple(t) -/
theorem call_tupleT : CallR X (.type "tuple") (fun xs H Q => ∃ a ys, xs = [.ref a] ∧ SqT X.K H a ys ∧ Q (.ref a) H) := by
  intro pins s σ H xs us Q I r h
  obtain ⟨a, ys, rfl, ha, q⟩ := h
  obtain ⟨u, rfl, ru⟩ := vals1 r
  cases ru
  obtain ⟨its, _, p1, _⟩ := I.tuple ha
  exact call_tuple_same (items := its.toArray) p1 ⟨.ref a, H, I, rfl, q⟩
end
end L2

namespace L2
open PySem PySem.Spec PyProof.Rows

/-! ### places -/
/-- the place that an index of any sign means -/
def ixN (n : Nat) (i : Int) : Option Nat := if 0 ≤ i then (if i < n then some i.toNat else none) else if -(n : Int) ≤ i then some (i + n).toNat else none
def atI {α : Type} (xs : List α) (i : Int) : Option α := (ixN xs.length i).bind fun j => xs[j]?
theorem ixN_seq {n : Nat} {i : Int} {j : Nat} (h : ixN n i = some j) : seqIndex? i n = some j ∧ j < n ∧ -(n : Int) ≤ i ∧ i < n := by
  unfold ixN at h
  by_cases h0 : 0 ≤ i
  · rw [if_pos h0] at h
    by_cases h1 : i < n
    · rw [if_pos h1] at h
      have e : i.toNat = j := Option.some.inj h
      exact ⟨by rw [seqIndex_of h0 h1, e], by omega, by omega, h1⟩
    · rw [if_neg h1] at h; cases h
  · rw [if_neg h0] at h
    by_cases h1 : -(n : Int) ≤ i
    · rw [if_pos h1] at h
      have e : (i + n).toNat = j := Option.some.inj h
      exact ⟨by rw [seqIndex_neg (by omega) h1, e], by omega, h1, by omega⟩
    · rw [if_neg h1] at h; cases h
theorem atI_get {α : Type} {xs : List α} {i : Int} {v : α} (h : atI xs i = some v) : ∃ j, seqIndex? i xs.length = some j ∧ xs[j]? = some v ∧ j < xs.length ∧ -(xs.length : Int) ≤ i ∧ i < xs.length := by
  unfold atI at h
  cases e : ixN xs.length i with
  | none => rw [e] at h; cases h
  | some j =>
    rw [e] at h
    obtain ⟨h1, h2, h3, h4⟩ := ixN_seq e
    exact ⟨j, h1, h, h2, h3, h4⟩
theorem atI_nat {α : Type} {xs : List α} {j : Nat} {v : α} (h : xs[j]? = some v) : atI xs (j : Int) = some v := by
  have hj : j < xs.length := (List.getElem?_eq_some_iff.mp h).1
  have e : ixN xs.length (j : Int) = some j := by
    unfold ixN
    rw [if_pos (by omega), if_pos (by omega)]; simp
  unfold atI; rw [e]; exact h
theorem atI_last {α : Type} (xs : List α) (v : α) : atI (xs ++ [v]) (-1) = some v := by
  have hl : (xs ++ [v]).length = xs.length + 1 := by simp
  have e : ixN (xs ++ [v]).length (-1) = some xs.length := by
    unfold ixN
    rw [hl, if_neg (by decide), if_pos (by omega)]
    congr 1
    omega
  unfold atI
  rw [e]
  show (xs ++ [v])[xs.length]? = some v
  simp

/-! ### what may be subscripted -/
/-- what stands as an index of a plain subscript -/
def PlainIx (b : Expr) : Prop := ∀ o i, subscripted b false o i = operate [o, i] (getItem o i)
/-- a subscript by values -/
def IxR (X : Cx) (r : R2) : Prop :=
  ∀ (value slice : Expr) (pins : List (Addr × Obj)) (s : Shared) (σ : St) (H : Hp) (x y : V) (v u : Value) (Q : VK), Inv X pins σ H s → RelV x v → RelV y u → r x y H Q →
    subscripted slice false v u = operate [v, u] (getItem v u) → wpAny (model X.prog X.w) X.A (subscriptTail value slice v u) (EP X pins σ Q) X.xe s
/-- a call of a builtin's method by values: the receiver, the arguments -/
def MtR (X : Cx) (id : String) (r : V → List V → Hp → VK → Prop) : Prop :=
  ∀ (pins : List (Addr × Obj)) (s : Shared) (σ : St) (H : Hp) (x : V) (xs : List V) (v : Value) (us : List Value) (Q : VK), Inv X pins σ H s → RelV x v → Vals xs us → r x xs H Q →
    wpAny (model X.prog X.w) X.A (call (.builtin id) (v :: us)) (EP X pins σ Q) X.xe s
section
variable {X : Cx} {a b : Expr} {ta tb : TE} {pos : Pos}
theorem IxR.or {r r' : R2} (h : IxR X r) (h' : IxR X r') : IxR X (fun x y H Q => r x y H Q ∨ r' x y H Q) := by
  intro value slice pins s σ H x y v u Q I rx ry q hs
  rcases q with q | q
  · exact h value slice pins s σ H x y v u Q I rx ry q hs
  · exact h' value slice pins s σ H x y v u Q I rx ry q hs
theorem MtR.or {id : String} {r r' : V → List V → Hp → VK → Prop} (h : MtR X id r) (h' : MtR X id r') : MtR X id (fun x xs H Q => r x xs H Q ∨ r' x xs H Q) := by
  intro pins s σ H x xs v us Q I rx rs q
  rcases q with q | q
  · exact h pins s σ H x xs v us Q I rx rs q
  · exact h' pins s σ H x xs v us Q I rx rs q
/-- a[b] -/
theorem pe_ix {r : R2} (hr : IxR X r) (ha : PE X a ta) (hb : PE X b tb) (hs : PlainIx b) : PE X (.Subscript a b pos) (tOp r ta tb) := by
  intro pins s σ H Q I h
  exact Subscript_ (binT ha hb I h fun v u s2 x y H2 I2 rx ry q => hr a b pins s2 σ H2 x y v u Q I2 rx ry q (hs _ _))

def rIxL (K : PySem.W.Frag) : R2 := fun x y H Q => ∃ p xs i v, x = .ref p ∧ y = .int i ∧ SqL K H p xs ∧ atI xs i = some v ∧ Q v H
def rIxT (K : PySem.W.Frag) : R2 := fun x y H Q => ∃ p xs i v, x = .ref p ∧ y = .int i ∧ SqT K H p xs ∧ atI xs i = some v ∧ Q v H
def rIxS : R2 := fun x y H Q => ∃ z i c, x = .str z ∧ y = .int i ∧ z.length ≤ sizeLine ∧ atI z.cps.toList i = some c ∧ Q (.str ⟨#[c]⟩) H
theorem ix_list : IxR X (rIxL X.K) := by
  intro value slice pins s σ H x y v u Q I rx ry h hs
  obtain ⟨p, xs, i, z, rfl, rfl, hq, he, q⟩ := h
  cases rx
  obtain ⟨t, rfl⟩ := ry
  obtain ⟨its, r, pl, hz⟩ := I.list hq
  obtain ⟨j, h1, h2, h3, h4, h5⟩ := atI_get he
  obtain ⟨w, ew, rw'⟩ := r.get h2
  have hl := r.length
  have hn := line63
  have fin : EP X pins σ Q w s := ⟨z, H, I, rw', q⟩
  by_cases h0 : 0 ≤ i
  · have hj : i.toNat = j := by
      rw [seqIndex_of h0 h5] at h1
      exact Option.some.inj h1
    exact item_listR pl.isList h0 (by omega) (by rw [hj]; simpa using ew) fin hs
  · have hj : (i + (its.toArray.size : Int)).toNat = j := by
      rw [seqIndex_neg (by omega) h4] at h1
      rw [List.size_toArray, ← hl]
      exact Option.some.inj h1
    exact subscriptTail_builtinR (x := w) pl.isList.typeIs slot_list_getitem.lookup
      (wpAny_getItem_list_neg (Q := fun r s' => r = w ∧ EP X pins σ Q r s') pl.isList (by omega) (by rw [List.size_toArray] <;> omega) (by omega) (by rw [hj]; simpa using ew) ⟨rfl, fin⟩) hs
theorem ix_tup : IxR X (rIxT X.K) := by
  intro value slice pins s σ H x y v u Q I rx ry h hs
  obtain ⟨p, xs, i, z, rfl, rfl, hq, he, q⟩ := h
  cases rx
  obtain ⟨t, rfl⟩ := ry
  obtain ⟨its, r, pl, hz⟩ := I.tuple hq
  obtain ⟨j, h1, h2, h3, h4, h5⟩ := atI_get he
  obtain ⟨w, ew, rw'⟩ := r.get h2
  have hl := r.length
  have hn := line63
  have fin : EP X pins σ Q w s := ⟨z, H, I, rw', q⟩
  exact subscriptTail_builtinR (x := w) pl.typeIs slot_tuple_getitem.lookup
    (getItem_tuple (j := j) (Q := fun r s' => r = w ∧ EP X pins σ Q r s') pl (by omega) (by omega) (by rw [List.size_toArray, ← hl]; exact h1) (by simpa using ew) ⟨rfl, fin⟩) hs
theorem ix_str : IxR X rIxS := by
  intro value slice pins s σ H x y v u Q I rx ry h hs
  obtain ⟨z, i, c, rfl, rfl, hz, he, q⟩ := h
  obtain ⟨t, rfl⟩ := rx
  obtain ⟨t', rfl⟩ := ry
  obtain ⟨j, h1, h2, h3, h4, h5⟩ := atI_get he
  have hl : z.cps.toList.length = z.length := by simp [Str.length]
  rw [hl] at h1 h4 h5
  have hn := line63
  exact tail_any (typeIs_str s z t) slot_str_getitem.lookup (getItem_str (c := c) (by
    have e1 : decide (i < -(2 ^ 63 : Int)) = false := decide_eq_false (by omega)
    have e2 : decide (i ≥ 2 ^ 63) = false := decide_eq_false (by omega)
    rw [e1, e2, Bool.or_false]) (by rw [h1]; simpa using h2) ⟨.str ⟨#[c]⟩, H, I.tok _, ⟨_, rfl⟩, q⟩) hs
/-- list, tuple or str -/
def rIx (K : PySem.W.Frag) : R2 := fun x y H Q => rIxL K x y H Q ∨ rIxT K x y H Q ∨ rIxS x y H Q
theorem ix_seq : IxR X (rIx X.K) := ix_list.or (ix_tup.or ix_str)

/-! ### xs[i] = v, any sign -/
/-- the list's object behind a store -/
theorem mapSeq_set (its : List Value) (n j : Nat) (u : Value) : Obj.mapSeq (·.setIfInBounds j u) { cls := .type "list", data := .seq its.toArray n } = { cls := .type "list", data := .seq (its.set j u).toArray n } := by
  simp [Obj.mapSeq]
theorem Inv.lst {pins : List (Addr × Obj)} {σ : St} {H : Hp} {s : Shared} {p : Addr} {xs : List V} (I : Inv X pins σ H s) (h : H p = some (.lst xs)) :
    ∃ (its : List Value) (n : Nat), Vals xs its ∧ s.heap.get? p = some { cls := .type "list", data := .seq its.toArray n } ∧ xs.length ≤ sizeLine := by
  obtain ⟨z, its, n, r, e⟩ := I.hok p _ h
  exact ⟨its, n, r, e, z⟩
/-- the list at p is written by an update of its object -/
theorem Inv.lstUpd {pins : List (Addr × Obj)} {σ : St} {H : Hp} {s : Shared} {p : Addr} {xs ys : List V} {its its' : List Value} {n n' : Nat} {f : Obj → Obj} (I : Inv X pins σ H s) (h : H p = some (.lst xs))
    (ho : s.heap.get? p = some { cls := .type "list", data := .seq its.toArray n }) (hf : f { cls := .type "list", data := .seq its.toArray n } = { cls := .type "list", data := .seq its'.toArray n' }) (r : Vals ys its') (hz : ys.length ≤ sizeLine) (t : Nat) :
    Inv X pins σ (upd H p (.lst ys)) { s with heap := s.heap.update p f, toks := t } := by
  have e : (s.heap.update p f).get? p = some { cls := .type "list", data := .seq its'.toArray n' } := by
    rw [Heap.get?_update_self f ho (by rw [hf] <;> rfl), hf]
  refine I.write (x := p) (e := p) (by rw [h]; trivial) (.inl rfl) (fun b u hb q => (Heap.get?_update_other _ _ (Ne.symm hb)).trans q) ⟨_, e⟩ ?_
  exact ⟨hz, its', n', r, e⟩
def rSetL : V → V → V → Hp → (Hp → Prop) → Prop := fun o i v H Q => ∃ p xs k j, o = .ref p ∧ i = .int k ∧ H p = some (.lst xs) ∧ ixN xs.length k = some j ∧ Q (upd H p (.lst (xs.set j v)))
theorem set_list : PSet X rSetL := by
  intro pins s σ H o i v ov iv u Q I ro ri rv h
  obtain ⟨p, xs, k, j, rfl, rfl, hp, hj, q⟩ := h
  cases ro
  obtain ⟨t, rfl⟩ := ri
  obtain ⟨its, n, r, ho, hz⟩ := I.lst hp
  obtain ⟨h1, h2, h3, h4⟩ := ixN_seq hj
  have hl := r.length
  have hn := line63
  have I' : Inv X pins σ (upd H p (.lst (xs.set j v))) { s with heap := s.heap.update p (Obj.mapSeq (·.setIfInBounds j u)) } :=
    I.lstUpd hp ho (mapSeq_set its n j u) (r.set rv j) (by rw [List.length_set]; exact hz) s.toks
  by_cases h0 : 0 ≤ k
  · have hk : k.toNat = j := by
      rw [seqIndex_of h0 h4] at h1
      exact Option.some.inj h1
    exact PySem.W.ki_setAt ho h0 (by omega) (by rw [List.size_toArray, ← hl]; exact h4) (by rw [hk]; exact ⟨_, I', q⟩)
  · have hk : (k + (its.toArray.size : Int)).toNat = j := by
      rw [seqIndex_neg (by omega) h3] at h1
      rw [List.size_toArray, ← hl]
      exact Option.some.inj h1
    exact PySem.W.ki_setBack ho (by omega) (by rw [List.size_toArray, ← hl]; exact h3) (by omega) (by rw [hk]; exact ⟨_, I', q⟩)

/-! ### slices -/
theorem slice_bounds (lo hi : Option Int) (n : Nat) : (sliceBounds lo hi none n).1 = ((HT.sIx n 0 lo : Nat) : Int) ∧ (sliceBounds lo hi none n).2.1 = ((HT.sIx n n hi : Nat) : Int) ∧ (sliceBounds lo hi none n).2.2 = 1 := by
  refine ⟨?_, ?_, rfl⟩
  · cases lo with
    | none => simp [sliceBounds, HT.sIx]
    | some i =>
      simp only [sliceBounds, HT.sIx, Option.getD_none, show (1 : Int) > 0 by decide, if_true]
      by_cases h : i < 0
      · simp only [h, if_true] <;> omega
      · simp only [h, if_false] <;> omega
  · cases hi with
    | none => simp [sliceBounds, HT.sIx]
    | some i =>
      simp only [sliceBounds, HT.sIx, Option.getD_none, show (1 : Int) > 0 by decide, if_true]
      by_cases h : i < 0
      · simp only [h, if_true] <;> omega
      · simp only [h, if_false] <;> omega
theorem slicePick_cut (its : List Value) (lo hi : Option Int) : slicePick its.toArray lo hi none = ((its.drop (HT.sIx its.length 0 lo)).take (HT.sIx its.length its.length hi - HT.sIx its.length 0 lo)).toArray := by
  obtain ⟨h1, h2, h3⟩ := slice_bounds lo hi its.toArray.size
  unfold slicePick
  rw [h1, h2, h3]
  simp only [sliceRange_one, pick_run, List.size_toArray] <;> rfl
/-- xs[lo:hi] of a list: a new list -/
def rSlL (K : PySem.W.Frag) : V → Option Int → Option Int → Hp → VK → Prop := fun x lo hi H Q => ∃ a xs, x = .ref a ∧ SqL K H a xs ∧ ∀ p, H p = none → Q (.ref p) (upd H p (.lst (cutV xs lo hi)))
theorem sl_list : SlR X (rSlL X.K) := by
  intro pins s σ H x v vl vu lo hi sl Q I rx hs pl pu h
  obtain ⟨a, xs, rfl, hx, q⟩ := h
  cases rx
  obtain ⟨its, r, ht, hz⟩ := I.list hx
  have hlen := r.length
  refine ⟨"list", _, slot_list_getitem.lookup, ht.isList.typeIs, ?_⟩
  refine wpAny_getItem_list_slice ht.isList hs pl pu .none (by simp) ?_ (by rw [List.size_toArray] <;> omega)
  rw [slicePick_cut, ← hlen]
  refine ⟨.ref s.heap.objs.size, _, I.laid (t' := s.toks) (o := .lst (cutV xs lo hi)) (fun b ob q => Heap.get?_push_of_some _ q) (Nat.le_refl _) ?_, rfl, q _ (I.hok.fresh (Nat.le_refl _))⟩
  exact ⟨Nat.le_trans (cutV_length xs lo hi) hz, _, 0, (r.drop (HT.sIx xs.length 0 lo)).take (HT.sIx xs.length xs.length hi - HT.sIx xs.length 0 lo), Heap.get?_push_size _ rfl⟩

/-! ### in, not in: flat items -/
def flatV : V → Bool
  | .non => true
  | .bl _ => true
  | .int _ => true
  | .str _ => true
  | _ => false
/-- == of flat values -/
def eqV : V → V → Bool
  | .non, .non => true
  | .bl a, .bl b => a == b
  | .bl a, .int b => (if a then 1 else 0) == b
  | .int a, .bl b => a == (if b then 1 else 0)
  | .int a, .int b => a == b
  | .str a, .str b => a == b
  | _, _ => false
theorem eqAt_V {A : Around} {s : Shared} {y x : V} {u v : Value} (ry : RelV y u) (rx : RelV x v) (fy : flatV y = true) (fx : flatV x = true) : SeqAt.EqAt A s u v (eqV y x) := by
  cases y with
  | non =>
    cases ry
    cases x with
    | non => cases rx; exact SeqAt.EqAt.same _
    | bl b => cases rx; exact SeqAt.EqAt.none_bool b
    | int b => obtain ⟨t, rfl⟩ := rx; exact SeqAt.EqAt.none_int b t
    | str b => obtain ⟨t, rfl⟩ := rx; exact SeqAt.EqAt.none_str b t
    | _ => exact absurd (show false = true from fx) Bool.false_ne_true
  | bl a =>
    cases ry
    cases x with
    | non => cases rx; exact SeqAt.EqAt.bool_none a
    | bl b => cases rx; exact SeqAt.EqAt.bool_bool a b
    | int b => obtain ⟨t, rfl⟩ := rx; exact SeqAt.EqAt.bool_int a b t
    | str b => obtain ⟨t, rfl⟩ := rx; exact SeqAt.EqAt.bool_str a b t
    | _ => exact absurd (show false = true from fx) Bool.false_ne_true
  | int a =>
    obtain ⟨t', rfl⟩ := ry
    cases x with
    | non => cases rx; exact SeqAt.EqAt.int_none a t'
    | bl b => cases rx; exact SeqAt.EqAt.int_bool a t' b
    | int b => obtain ⟨t, rfl⟩ := rx; exact SeqAt.EqAt.int_int a t' b t
    | str b => obtain ⟨t, rfl⟩ := rx; exact SeqAt.EqAt.int_str a t' b t
    | _ => exact absurd (show false = true from fx) Bool.false_ne_true
  | str a =>
    obtain ⟨t', rfl⟩ := ry
    cases x with
    | non => cases rx; exact SeqAt.EqAt.str_none a t'
    | bl b => cases rx; exact SeqAt.EqAt.str_bool a t' b
    | int b => obtain ⟨t, rfl⟩ := rx; exact SeqAt.EqAt.str_int a t' b t
    | str b => obtain ⟨t, rfl⟩ := rx; exact SeqAt.EqAt.str_str a t' b t
    | _ => exact absurd (show false = true from fx) Bool.false_ne_true
  | _ => exact absurd (show false = true from fy) Bool.false_ne_true
/-- the items' answers, read off the values (a value's own answer does not lean on its token) -/
def eqU (x : V) (u : Value) : Bool := match u with
  | .none => eqV .non x
  | .bool b => eqV (.bl b) x
  | .int i _ => eqV (.int i) x
  | .str z _ => eqV (.str z) x
  | _ => false
theorem eqU_of {x y : V} {u : Value} (r : RelV y u) (f : flatV y = true) : eqU x u = eqV y x := by
  cases y with
  | non => cases r; rfl
  | bl b => cases r; rfl
  | int i => obtain ⟨t, rfl⟩ := r; rfl
  | str z => obtain ⟨t, rfl⟩ := r; rfl
  | _ => exact absurd (show false = true from f) Bool.false_ne_true
theorem any_eqU {x : V} : ∀ {xs : List V} {us : List Value}, Vals xs us → xs.all flatV = true → us.any (eqU x) = xs.any fun y => eqV y x
  | _, _, .nil, _ => rfl
  | y :: xs, u :: us, .cons r t, f => by
    rw [List.all_cons, Bool.and_eq_true] at f
    rw [List.any_cons, List.any_cons, eqU_of r f.1, any_eqU t f.2]
theorem mem_eqAt {A : Around} {s : Shared} {x : V} {v : Value} (rx : RelV x v) (fx : flatV x = true) : ∀ {xs : List V} {us : List Value}, Vals xs us → xs.all flatV = true → ∀ u ∈ us, SeqAt.EqAt A s u v (eqU x u)
  | _, _, .nil, _ => fun u hu => by cases hu
  | y :: xs, u :: us, .cons r t, f => fun u' hu => by
    rw [List.all_cons, Bool.and_eq_true] at f
    rcases List.mem_cons.mp hu with rfl | hu
    · rw [eqU_of r f.1]; exact eqAt_V r rx f.1 fx
    · exact mem_eqAt rx fx t f.2 u' hu
def inV (x : V) (xs : List V) : Bool := xs.any fun y => eqV y x
/-- x in a list or tuple of flat items -/
def rIn (K : PySem.W.Frag) (neg : Bool) : R2 := fun x y H Q => ∃ p xs, y = .ref p ∧ (SqL K H p xs ∨ SqT K H p xs) ∧ flatV x = true ∧ xs.all flatV = true ∧ Q (.bl (if neg then !inV x xs else inV x xs)) H
theorem op_in_seq : OpR X (compareOp .In) (rIn X.K false) := by
  intro pins s σ H x y v u Q I rx ry h
  obtain ⟨p, xs, rfl, hq, fx, fs, q⟩ := h
  cases ry
  rcases hq with hq | hq
  · obtain ⟨its, r, pl, hz⟩ := I.list hq
    refine SeqAt.in_listAt (eqU x) pl.isList (fun w hw => mem_eqAt rx fx r fs w (by simpa using hw)) ⟨.bl _, H, I, rfl, ?_⟩
    rw [show its.toArray.any (eqU x) = its.any (eqU x) by simp, any_eqU r fs]
    exact q
  · obtain ⟨its, r, pl, hz⟩ := I.tuple hq
    refine SeqAt.in_tupleAt (eqU x) pl (fun w hw => mem_eqAt rx fx r fs w (by simpa using hw)) ⟨.bl _, H, I, rfl, ?_⟩
    rw [show its.toArray.any (eqU x) = its.any (eqU x) by simp, any_eqU r fs]
    exact q
theorem op_notIn_seq : OpR X (compareOp .NotIn) (rIn X.K true) := by
  intro pins s σ H x y v u Q I rx ry h
  obtain ⟨p, xs, rfl, hq, fx, fs, q⟩ := h
  cases ry
  rcases hq with hq | hq
  · obtain ⟨its, r, pl, hz⟩ := I.list hq
    refine SeqAt.notIn_listAt (eqU x) pl.isList (fun w hw => mem_eqAt rx fx r fs w (by simpa using hw)) ⟨.bl _, H, I, rfl, ?_⟩
    rw [show its.toArray.any (eqU x) = its.any (eqU x) by simp, any_eqU r fs]
    exact q
  · obtain ⟨its, r, pl, hz⟩ := I.tuple hq
    refine SeqAt.notIn_tupleAt (eqU x) pl (fun w hw => mem_eqAt rx fx r fs w (by simpa using hw)) ⟨.bl _, H, I, rfl, ?_⟩
    rw [show its.toArray.any (eqU x) = its.any (eqU x) by simp, any_eqU r fs]
    exact q
theorem op_notIn_str : OpR X (compareOp .NotIn) (fun x y H Q => ∃ i j, x = .str i ∧ y = .str j ∧ Q (.bl (!(!(Builtin.Str.occurrences j i 0 j.length 1).isEmpty))) H) := by
  intro pins s σ H x y v u Q I rx ry h
  obtain ⟨i, j, rfl, rfl, q⟩ := h
  obtain ⟨t, rfl⟩ := rx
  obtain ⟨t', rfl⟩ := ry
  exact notIn_str ⟨.bl _, H, I, rfl, q⟩

/-! ### len, list(x), tuple(x) of any list or tuple that is read -/
theorem call_len_seq : CallR X (.builtin "len") (fun xs H Q => ∃ p ys, xs = [.ref p] ∧ (SqL X.K H p ys ∨ SqT X.K H p ys) ∧ Q (.int ys.length) H) := by
  intro pins s σ H xs us Q I r h
  obtain ⟨p, ys, rfl, hq, q⟩ := h
  obtain ⟨u, rfl, rx⟩ := vals1 r
  cases rx
  have hn := line63
  rcases hq with hq | hq
  · obtain ⟨its, r', pl, hz⟩ := I.list hq
    have hlen := r'.length
    exact Calls.call_len_list pl.isList (by simp only [List.size_toArray] <;> omega) ⟨.int ys.length, H, I.tok _, ⟨s.toks + 1, by rw [List.size_toArray, hlen]⟩, q⟩
  · obtain ⟨its, r', pl, hz⟩ := I.tuple hq
    have hlen := r'.length
    exact len_tuple pl (by simp only [List.size_toArray] <;> omega) ⟨.int ys.length, H, I.tok _, ⟨s.toks + 1, by rw [List.size_toArray, hlen]⟩, q⟩
theorem call_len_str : CallR X (.builtin "len") (fun xs H Q => ∃ z, xs = [.str z] ∧ z.length ≤ sizeLine ∧ Q (.int z.length) H) := by
  intro pins s σ H xs us Q I r h
  obtain ⟨z, rfl, hz, q⟩ := h
  obtain ⟨u, rfl, t, rfl⟩ := vals1 r
  have hn := line63
  exact len_str (by omega) ⟨.int z.length, H, I.tok _, ⟨_, rfl⟩, q⟩
theorem CallR.or {f : Value} {r r' : List V → Hp → VK → Prop} (h : CallR X f r) (h' : CallR X f r') : CallR X f (fun xs H Q => r xs H Q ∨ r' xs H Q) := by
  intro pins s σ H xs us Q I rs q
  rcases q with q | q
  · exact h pins s σ H xs us Q I rs q
  · exact h' pins s σ H xs us Q I rs q
theorem call_list_of : CallR X (.type "list") (fun xs H Q => ∃ p ys, xs = [.ref p] ∧ (SqL X.K H p ys ∨ SqT X.K H p ys) ∧ ∀ l, H l = none → Q (.ref l) (upd H l (.lst ys))) := by
  intro pins s σ H xs us Q I r h
  obtain ⟨p, ys, rfl, hq, q⟩ := h
  obtain ⟨u, rfl, rx⟩ := vals1 r
  cases rx
  have fin : ∀ (its : List Value), Vals ys its → ys.length ≤ sizeLine → ∀ (h' : Heap) (c' : Nat), (∀ b o', s.heap.get? b = some o' → h'.get? b = some o') →
      h'.get? s.heap.objs.size = some { cls := .type "list", dict := none, data := .seq its.toArray c', slots := #[] } → EP X pins σ Q (.ref s.heap.objs.size) { s with heap := h' } := fun its r' hz h' c' kp e =>
    ⟨.ref s.heap.objs.size, _, I.laid (t' := s.toks) kp (Nat.le_refl _) (show ObjOk X.prog X.w _ h' _ (.lst ys) from ⟨hz, its, c', r', e⟩), rfl, q _ (I.hok.fresh (Nat.le_refl _))⟩
  rcases hq with hq | hq
  · obtain ⟨its, r', pl, hz⟩ := I.list hq
    have hlen := r'.length
    obtain ⟨o, ho, hc, n, hd⟩ := pl.isList
    exact call_list_seq p (.inl rfl) ho hc hd (fun h' c' kp e => fin its r' hz h' c' kp e) (by simp only [List.size_toArray] <;> omega)
  · obtain ⟨its, r', pl, hz⟩ := I.tuple hq
    have hlen := r'.length
    obtain ⟨o, ho, hc, n, hd⟩ := pl
    exact call_list_seq p (.inr rfl) ho hc hd (fun h' c' kp e => fin its r' hz h' c' kp e) (by simp only [List.size_toArray] <;> omega)
theorem call_tuple_of : CallR X (.type "tuple") (fun xs H Q => ∃ p ys, xs = [.ref p] ∧ ((SqL X.K H p ys ∧ ∀ l, H l = none → Q (.ref l) (upd H l (.tup ys))) ∨ (SqT X.K H p ys ∧ Q (.ref p) H))) := by
  intro pins s σ H xs us Q I r h
  obtain ⟨p, ys, rfl, h⟩ := h
  obtain ⟨u, rfl, rx⟩ := vals1 r
  cases rx
  rcases h with ⟨hq, q⟩ | ⟨hq, q⟩
  · obtain ⟨its, r', pl, hz⟩ := I.list hq
    have hlen := r'.length
    refine call_tuple_list pl.isList (fun h' kp => ?_) (by simp only [List.size_toArray] <;> omega)
    have I1 : Inv X pins σ H { s with heap := h' } := I.kept (t' := s.toks) kp
    have I2 : Inv X pins σ (upd H h'.objs.size (.tup ys)) { s with heap := h'.push { cls := .type "tuple", data := .seq its.toArray } } :=
      I1.laid (t' := s.toks) (fun b o e => Heap.get?_push_of_some _ e) (Nat.le_refl _) (show ObjOk X.prog X.w _ _ _ (.tup ys) from ⟨hz, its, r', IsTup.new _ _⟩)
    exact ⟨.ref h'.objs.size, _, I2, rfl, q _ (I1.hok.fresh (Nat.le_refl _))⟩
  · obtain ⟨its, r', pl, hz⟩ := I.tuple hq
    exact call_tuple_same pl ⟨.ref p, H, I, rfl, q⟩

/-! ### the call of a builtin's method: o.m(..) -/
/-- the value is of that builtin type -/
def tyV (K : PySem.W.Frag) (T : String) (x : V) (H : Hp) : Prop := match x with
  | .str _ => T = "str"
  | .int _ => T = "int"
  | .ref p => (T = "list" ∧ ∃ xs, SqL K H p xs) ∨ (T = "tuple" ∧ ∃ o, K.lookup p = some o ∧ o.cls = .type "tuple" ∧ o.dict = none) ∨
      (T = "dict" ∧ ((∃ kvs, H p = some (.dK kvs)) ∨ ∃ kvs, H p = some (.dT kvs))) ∨ (T = "set" ∧ ∃ S n, H p = some (.set S n))
  | _ => False
theorem tyV_is {pins : List (Addr × Obj)} {σ : St} {H : Hp} {s : Shared} {T : String} {x : V} {v : Value} (I : Inv X pins σ H s) (r : RelV x v) (ty : tyV X.K T x H) :
    s.TypeIs v T ∧ ∀ a, v = .ref a → ∃ ob, s.heap.get? a = some ob ∧ ob.dict = none := by
  cases x with
  | str z =>
    obtain ⟨t, rfl⟩ := r
    cases (show T = "str" from ty)
    exact ⟨typeIs_str s z t, fun _ e => nomatch e⟩
  | int i =>
    obtain ⟨t, rfl⟩ := r
    cases (show T = "int" from ty)
    exact ⟨typeIs_int s i t, fun _ e => nomatch e⟩
  | ref p =>
    cases r
    rcases ty with ⟨rfl, xs, hq⟩ | ⟨rfl, o, hk, hc, hd⟩ | ⟨rfl, hk⟩ | ⟨rfl, S, n, hk⟩
    · obtain ⟨its, _, pl, _⟩ := I.list hq
      refine ⟨pl.isList.typeIs, fun a e => ?_⟩
      cases e
      obtain ⟨o, n, e, c, hd, _⟩ := pl
      exact ⟨o, e, hd⟩
    · refine ⟨⟨o, I.kIn p o hk, hc⟩, fun a e => ?_⟩
      cases e
      exact ⟨o, I.kIn _ o hk, hd⟩
    · have z : ∃ o, s.heap.get? p = some o ∧ o.ExactDict := by
        rcases hk with ⟨kvs, hk⟩ | ⟨kvs, hk⟩
        · obtain ⟨_, _, _, _, o, _, _, e, ex, _⟩ := I.hok p _ hk
          exact ⟨o, e, ex⟩
        · obtain ⟨_, _, _, _, o, _, _, e, ex, _⟩ := I.hok p _ hk
          exact ⟨o, e, ex⟩
      obtain ⟨o, e, ex⟩ := z
      refine ⟨⟨o, e, ex.1⟩, fun a e2 => ?_⟩
      cases e2
      exact ⟨o, e, ex.2.1⟩
    · obtain ⟨o, _, _, _, e, ex, _⟩ := I.hok p _ hk
      refine ⟨⟨o, e, ex.1⟩, fun a e2 => ?_⟩
      cases e2
      exact ⟨o, e, ex.2.1⟩
  | _ => exact False.elim ty
def tBM0 (K : PySem.W.Frag) (T : String) (r : V → List V → Hp → VK → Prop) (to : TE) : TE := fun σ H Q => to σ H fun x H1 => tyV K T x H1 ∧ r x [] H1 Q
def tBM (K : PySem.W.Frag) (T : String) (r : V → List V → Hp → VK → Prop) (to : TE) (t : TA) : TE := fun σ H Q => to σ H fun x H1 => tyV K T x H1 ∧ t σ H1 fun xs H2 => r x xs H2 Q
variable {o e : Expr} {es : List Expr} {to : TE} {t : TA} {name : Str} {apos cpos : Pos} {T id : String} {r : V → List V → Hp → VK → Prop}
theorem pe_bm0 (pa : PlainAttrs T) (slot : Slot T name id) (hty : typeOf (.builtin id) = pure (.type "method_descriptor")) (hm : MtR X id r) (ho : PE X o to)
    (hbase : attributeBase o name X.env (eval o X.env) = eval o X.env := by rfl) (hline : (apos.endLine == cpos.line) = true := by rfl) : PE X (.Call (.Attribute o name apos) [] [] cpos) (tBM0 X.K T r to) := by
  intro pins s σ H Q I h
  refine wpAny_Call_method0_late hbase hline (thn (ho pins s σ H _ I h) fun v s1 ⟨x, H1, I1, r1, ty, q1⟩ => ?_)
  obtain ⟨h1, h2⟩ := tyV_is I1 r1 ty
  exact ⟨T, id, pa, slot, hty, h1, h2, Calls.callWith_builtin rfl (PySem.evalArgs_none (hm pins s1 σ H1 x [] v [] Q I1 r1 .nil q1))⟩
theorem pe_bm (pa : PlainAttrs T) (slot : Slot T name id) (hty : typeOf (.builtin id) = pure (.type "method_descriptor")) (hm : MtR X id r) (ho : PE X o to) (ha : PA X (e :: es) t)
    (hbase : attributeBase o name X.env (eval o X.env) = eval o X.env := by rfl)
    (hfew : ((backTo cpos (starEach (e :: es) X.env)).all (fun x => !x.1) && (backToKw cpos (keywordEach [] X.env)).all (fun x => x.1.isSome)
      && decide ((e :: es).length + ([] : List Keyword).length + (if ([] : List Keyword).isEmpty then 0 else 1) < 30)) = true := by rfl)
    (hline : (apos.endLine == cpos.line) = true := by rfl) (hs : starEach (e :: es) X.env = (false, eval e X.env) :: starEach es X.env := by rfl) (hplain : (backTo cpos (starEach es X.env)).any (·.1) = false := by rfl) :
    PE X (.Call (.Attribute o name apos) (e :: es) [] cpos) (tBM X.K T r to t) := by
  intro pins s σ H Q I h
  refine wpAny_Call_method_late hbase hfew hline rfl (thn (ho pins s σ H _ I h) fun v s1 ⟨x, H1, I1, r1, ty, q1⟩ => ?_)
  obtain ⟨h1, h2⟩ := tyV_is I1 r1 ty
  refine ⟨T, id, pa, slot, hty, h1, h2, ?_⟩
  have hA := ha cpos pins s1 σ H1 _ I1 q1
  rw [hs] at hA ⊢
  refine Calls.callWith_builtin (by show (false || (backTo cpos (starEach es X.env)).any (·.1)) = false; rw [hplain] <;> rfl) (Calls.evalArgs_plain ?_)
  exact thn hA fun us s2 ⟨vs, H2, I2, r2, q2⟩ => hm pins s2 σ H2 x vs v us Q I2 r1 r2 q2
/- xs.append(e), list.index on a module's tuple .. are MtR facts of 06m -/
end
end L2

namespace L2
open PySem PySem.Spec PyProof.Rows

def MtM (X : Cx) (id : String) (r : V → List V → Hp → VK → Prop) : Prop :=
  ∀ (pins : List (Addr × Obj)) (s : Shared) (σ : St) (H : Hp) (x : V) (xs : List V) (v : Value) (us : List Value) (Q : VK), Inv X pins σ H s → RelV x v → Vals xs us → r x xs H Q →
    wpAny (model X.prog X.w) X.A (call (.builtin id) (v :: us)) (EP X pins σ Q) X.xe s

/-! ### lists of values -/
theorem Vals.one : ∀ {x : V} {us : List Value}, Vals [x] us → ∃ u, us = [u] ∧ RelV x u
  | _, _, .cons r .nil => ⟨_, rfl, r⟩
theorem Vals.two : ∀ {x y : V} {us : List Value}, Vals [x, y] us → ∃ u v, us = [u, v] ∧ RelV x u ∧ RelV y v
  | _, _, _, .cons r (.cons q .nil) => ⟨_, _, rfl, r, q⟩
theorem Vals.zero : ∀ {us : List Value}, Vals [] us → us = []
  | _, .nil => rfl
theorem Vals.dropLast {xs : List V} {us : List Value} (h : Vals xs us) : Vals xs.dropLast us.dropLast := by
  induction h with
  | nil => exact .nil
  | cons r t ih =>
    cases t with
    | nil => exact .nil
    | cons q t' => exact .cons r ih
theorem Vals.eraseIdx : ∀ {xs : List V} {us : List Value} (i : Nat), Vals xs us → Vals (xs.eraseIdx i) (us.eraseIdx i)
  | _, _, _, .nil => .nil
  | _, _, 0, .cons _ t => t
  | _, _, i + 1, .cons r t => .cons r (Vals.eraseIdx i t)
theorem Vals.reverse {xs : List V} {us : List Value} (h : Vals xs us) : Vals xs.reverse us.reverse := by
  induction h with
  | nil => exact .nil
  | cons r t ih => rw [List.reverse_cons, List.reverse_cons]; exact Vals.append ih (.cons r .nil)
theorem Vals.rep {xs : List V} {us : List Value} (h : Vals xs us) : ∀ k : Nat, Vals (List.replicate k xs).flatten (List.replicate k us).flatten
  | 0 => .nil
  | k + 1 => by
    rw [List.replicate_succ, List.replicate_succ, List.flatten_cons, List.flatten_cons]
    exact Vals.append h (Vals.rep h k)
theorem erase_last {α : Type} (l : List α) : l.eraseIdx (l.length - 1) = l.dropLast := by
  induction l with
  | nil => rfl
  | cons a r ih =>
    cases r with
    | nil => rfl
    | cons b r =>
      have e : (a :: b :: r).length - 1 = ((b :: r).length - 1) + 1 := by
        have h1 : (a :: b :: r).length = r.length + 2 := rfl
        have h2 : (b :: r).length = r.length + 1 := rfl
        omega
      rw [e, List.eraseIdx_cons_succ, ih]
      all_goals rfl
theorem len_erase {α : Type} : ∀ (l : List α) (i : Nat), (l.eraseIdx i).length ≤ l.length
  | [], _ => Nat.le_refl _
  | _ :: _, 0 => Nat.le_succ _
  | _ :: r, i + 1 => Nat.succ_le_succ (len_erase r i)
theorem foldl_rep (its : List Value) : ∀ (k : Nat) (acc : List Value),
    List.foldl (fun x1 x2 => x1 ++ x2) acc.toArray (List.replicate k its.toArray) = (acc ++ (List.replicate k its).flatten).toArray
  | 0, acc => by simp
  | k + 1, acc => by
    have e : acc.toArray ++ its.toArray = (acc ++ its).toArray := by simp
    have e2 : (acc ++ its) ++ (List.replicate k its).flatten = acc ++ (List.replicate (k + 1) its).flatten := by
      rw [List.replicate_succ, List.flatten_cons, List.append_assoc]
    rw [← e2, ← foldl_rep its k (acc ++ its), ← e, List.replicate_succ, List.foldl_cons]

section
variable {X : Cx} {pins : List (Addr × Obj)} {σ : St} {H : Hp} {s : Shared} {l b : Addr} {xs ys zs : List V}

/-! ### the two steps: a tracked list is rewritten, a new list is laid -/
theorem Inv.lset {its its' : List Value} {n : Nat} {f : Array Value → Array Value} {t' : Nat} (I : Inv X pins σ H s) (hH : H l = some (.lst xs))
    (e : s.heap.get? l = some { cls := .type "list", data := .seq its.toArray n }) (hf : f its.toArray = its'.toArray) (hv : Vals ys its') (hz : ys.length ≤ sizeLine) :
    Inv X pins σ (upd H l (.lst ys)) { s with heap := s.heap.update l (Obj.mapSeq f), toks := t' } := by
  have q := PySem.IsL.update e f
  rw [hf] at q
  refine I.write (x := l) (e := l) (by rw [hH]; exact trivial) (.inl rfl) (fun b' u hb hu => (Heap.get?_update_other s.heap (Obj.mapSeq f) (Ne.symm hb)).trans hu) ⟨_, q⟩ ?_
  exact ⟨hz, its', _, hv, q⟩
theorem Inv.lnew {its : List Value} {t' : Nat} (I : Inv X pins σ H s) (hv : Vals ys its) (hz : ys.length ≤ sizeLine) :
    Inv X pins σ (upd H s.heap.objs.size (.lst ys)) { s with heap := s.heap.push { cls := .type "list", data := .seq its.toArray }, toks := t' } :=
  I.laid (fun _ _ q => Heap.get?_push_of_some _ q) (Nat.le_refl _) ⟨hz, its, 0, hv, Heap.get?_push_size _ rfl⟩
theorem Inv.fresh (I : Inv X pins σ H s) : H s.heap.objs.size = none := I.hok.fresh (Nat.le_refl _)
theorem Inv.lstM (I : Inv X pins σ H s) (hH : H l = some (.lst xs)) : xs.length ≤ sizeLine ∧ ∃ (its : List Value) (n : Nat), Vals xs its ∧ xs.length = its.length ∧ s.heap.get? l = some { cls := .type "list", data := .seq its.toArray n } := by
  obtain ⟨z, its, n, r, e⟩ := I.hok l _ hH
  exact ⟨z, its, n, r, r.length, e⟩

theorem notLongL {n : Nat} (h : n ≤ sizeLine) : Builtin.List.listTooLong n = false := by
  unfold Builtin.List.listTooLong
  exact decide_eq_false (by omega)
end

section
variable {X : Cx}

/-! ### methods -/
def rAppend : V → List V → Hp → VK → Prop := fun x vs H Q => ∃ l xs y, x = .ref l ∧ vs = [y] ∧ H l = some (.lst xs) ∧ xs.length < sizeLine ∧ Q .non (upd H l (.lst (xs ++ [y])))
theorem mt_append : MtM X "list.append" rAppend := by
  intro pins s σ H x vs v us Q I rx rv h
  obtain ⟨l, xs, y, rfl, rfl, hH, hz, q⟩ := h
  cases rx
  obtain ⟨u, rfl, ru⟩ := rv.one
  obtain ⟨z, its, n, r, hl, e⟩ := I.lstM hH
  refine call_meets F.slot_list_append ⟨_, e, rfl⟩ F.entry_list_append (F.args_list_append_2 _ _) (PySem.list_append l its.toArray n u (by rw [List.size_toArray]; omega)) ⟨e, ?_⟩
  refine ⟨.non, _, I.lset (its' := its ++ [u]) hH e (by simp) (r.append (.cons ru .nil)) ?_, rfl, q⟩
  rw [List.length_append, List.length_singleton]
  omega

def rExtend : V → List V → Hp → VK → Prop := fun x vs H Q => ∃ l b xs zs, x = .ref l ∧ vs = [.ref b] ∧ H l = some (.lst xs) ∧ H b = some (.lst zs) ∧ xs.length + zs.length ≤ sizeLine ∧ Q .non (upd H l (.lst (xs ++ zs)))
theorem mt_extend : MtM X "list.extend" rExtend := by
  intro pins s σ H x vs v us Q I rx rv h
  obtain ⟨l, b, xs, zs, rfl, rfl, hH, hB, hz, q⟩ := h
  cases rx
  obtain ⟨u, rfl, ru⟩ := rv.one
  cases ru
  obtain ⟨z, its, n, r, hl, e⟩ := I.lstM hH
  obtain ⟨z2, its2, n2, r2, hl2, e2⟩ := I.lstM hB
  have hsz : its.toArray.size + its2.toArray.size ≤ sizeLine := by rw [List.size_toArray, List.size_toArray]; omega
  have hlong : ¬ (!its.toArray.isEmpty && Builtin.List.listTooLong (its.toArray.size + its2.toArray.size)) = true := by
    rw [notLongL hsz, Bool.and_false]
    exact Bool.false_ne_true
  refine call_meets F.slot_list_extend ⟨_, e, rfl⟩ F.entry_list_extend (F.args_list_extend_2 _ _)
    (AutoSeq1.list_extend_list_list_0 l its.toArray n b its2.toArray n2 hlong (by rw [List.size_toArray]; omega) (by omega)) ⟨e, e2, ?_⟩
  refine ⟨.non, _, I.lset (its' := its ++ its2) hH e (by simp) (r.append r2) ?_, rfl, q⟩
  rw [List.length_append]
  omega

def rPop : V → List V → Hp → VK → Prop := fun x vs H Q => ∃ l xs y, x = .ref l ∧ vs = [] ∧ H l = some (.lst xs) ∧ xs[xs.length - 1]? = some y ∧ Q y (upd H l (.lst xs.dropLast))
theorem mt_pop : MtM X "list.pop" rPop := by
  intro pins s σ H x vs v us Q I rx rv h
  obtain ⟨l, xs, y, rfl, rfl, hH, hy, q⟩ := h
  cases rx
  have hus := rv.zero
  subst hus
  obtain ⟨z, its, n, r, hl, e⟩ := I.lstM hH
  obtain ⟨u, hu, ru⟩ := r.get hy
  have hy' : its.toArray[its.toArray.size - 1]? = some u := by
    show its.toArray[its.length - 1]? = some u
    rw [← Array.getElem?_toList, ← hl]
    exact hu
  refine call_meets F.slot_list_pop ⟨_, e, rfl⟩ F.entry_list_pop (F.args_list_pop_1 _) (MeetsSeq.list_pop_last l its.toArray n u hy' (by rw [List.size_toArray]; omega)) ⟨e, ?_⟩
  refine ⟨y, _, I.lset (its' := its.dropLast) hH e ?_ r.dropLast ?_, ru, q⟩
  · show its.toArray.eraseIdxIfInBounds (its.toArray.size - 1) = its.dropLast.toArray
    rw [List.size_toArray, List.eraseIdxIfInBounds_toArray, erase_last]
  · rw [List.length_dropLast]
    omega

def rPopAt : V → List V → Hp → VK → Prop := fun x vs H Q => ∃ l xs i k y, x = .ref l ∧ vs = [.int i] ∧ H l = some (.lst xs) ∧ -(2 ^ 63) ≤ i ∧ i < 2 ^ 63 ∧ seqIndex? i xs.length = some k ∧ xs[k]? = some y ∧ Q y (upd H l (.lst (xs.eraseIdx k)))
theorem mt_popAt : MtM X "list.pop" rPopAt := by
  intro pins s σ H x vs v us Q I rx rv h
  obtain ⟨l, xs, i, k, y, rfl, rfl, hH, h1, h2, hk, hy, q⟩ := h
  cases rx
  obtain ⟨u, rfl, ru⟩ := rv.one
  obtain ⟨t, rfl⟩ := ru
  obtain ⟨z, its, n, r, hl, e⟩ := I.lstM hH
  obtain ⟨w, hw, rw'⟩ := r.get hy
  refine call_meets F.slot_list_pop ⟨_, e, rfl⟩ F.entry_list_pop (F.args_list_pop_2 _ _)
    (MeetsSeq.list_pop_at l its.toArray n i t k w (fitsIndex_both h1 h2) (by rw [List.size_toArray, ← hl]; exact hk) (by rw [← Array.getElem?_toList]; exact hw) (by rw [List.size_toArray]; omega)) ⟨e, ?_⟩
  refine ⟨y, _, I.lset (its' := its.eraseIdx k) hH e ?_ (r.eraseIdx k) ?_, rw', q⟩
  · show its.toArray.eraseIdxIfInBounds k = (its.eraseIdx k).toArray
    rw [List.eraseIdxIfInBounds_toArray]
  · have := len_erase xs k
    omega

def rReverse : V → List V → Hp → VK → Prop := fun x vs H Q => ∃ l xs, x = .ref l ∧ vs = [] ∧ H l = some (.lst xs) ∧ Q .non (upd H l (.lst xs.reverse))
theorem mt_reverse : MtM X "list.reverse" rReverse := by
  intro pins s σ H x vs v us Q I rx rv h
  obtain ⟨l, xs, rfl, rfl, hH, q⟩ := h
  cases rx
  have hus := rv.zero
  subst hus
  obtain ⟨z, its, n, r, hl, e⟩ := I.lstM hH
  refine call_meets F.slot_list_reverse ⟨_, e, rfl⟩ F.entry_list_reverse (F.args_list_reverse_1 _) (AutoSeq1.list_reverse_list_0 l its.toArray n (by rw [List.size_toArray]; omega)) ⟨e, ?_⟩
  refine ⟨.non, _, I.lset (its' := its.reverse) hH e (by simp) r.reverse ?_, rfl, q⟩
  rw [List.length_reverse]
  omega

def rClear : V → List V → Hp → VK → Prop := fun x vs H Q => ∃ l xs, x = .ref l ∧ vs = [] ∧ H l = some (.lst xs) ∧ Q .non (upd H l (.lst []))
theorem mt_clear : MtM X "list.clear" rClear := by
  intro pins s σ H x vs v us Q I rx rv h
  obtain ⟨l, xs, rfl, rfl, hH, q⟩ := h
  cases rx
  have hus := rv.zero
  subst hus
  obtain ⟨z, its, n, r, hl, e⟩ := I.lstM hH
  refine call_meets F.slot_list_clear ⟨_, e, rfl⟩ F.entry_list_clear (F.args_list_clear_1 _) (AutoSeq1.list_clear_list_0 l its.toArray n (by rw [List.size_toArray]; omega)) ⟨e, ?_⟩
  exact ⟨.non, _, I.lset (its' := []) (ys := []) hH e rfl .nil (Nat.zero_le _), rfl, q⟩

/-! ### list + list, list += list, list * int -/
def rCat : R2 := fun x y H Q => ∃ l b xs zs, x = .ref l ∧ y = .ref b ∧ H l = some (.lst xs) ∧ H b = some (.lst zs) ∧ xs.length + zs.length ≤ sizeLine ∧ ∀ p, H p = none → Q (.ref p) (upd H p (.lst (xs ++ zs)))
theorem op_cat : OpR X (binaryOp .Add) rCat := by
  intro pins s σ H x y v u Q I rx ry h
  obtain ⟨l, b, xs, zs, rfl, rfl, hH, hB, hz, q⟩ := h
  cases rx
  cases ry
  obtain ⟨z, its, n, r, hl, e⟩ := I.lstM hH
  obtain ⟨z2, its2, n2, r2, hl2, e2⟩ := I.lstM hB
  refine PySem.P.add_list e e2 ?_ (by rw [List.size_toArray, List.size_toArray]; omega)
  have ea : its.toArray ++ its2.toArray = (its ++ its2).toArray := by simp
  rw [ea]
  exact ⟨.ref _, _, I.lnew (t' := s.toks) (r.append r2) (by rw [List.length_append]; omega), rfl, q _ I.fresh⟩
/-- a list times an int (a negative one is nothing) -/
def rRep : R2 := fun x y H Q => ∃ l k xs, x = .ref l ∧ y = .int k ∧ H l = some (.lst xs) ∧ -(2 ^ 63) ≤ k ∧ k < 2 ^ 63 ∧ xs.length * k.toNat ≤ sizeLine ∧
  ∀ p, H p = none → Q (.ref p) (upd H p (.lst (List.replicate k.toNat xs).flatten))
theorem len_rep {α : Type} (xs : List α) (k : Nat) : (List.replicate k xs).flatten.length = k * xs.length := by
  induction k with
  | zero => simp
  | succ k ih => rw [List.replicate_succ, List.flatten_cons, List.length_append, ih, Nat.succ_mul, Nat.add_comm]
theorem op_rep : OpR X (binaryOp .Mult) rRep := by
  intro pins s σ H x y v u Q I rx ry h
  obtain ⟨l, k, xs, rfl, rfl, hH, h1, h2, hz, q⟩ := h
  cases rx
  obtain ⟨t, rfl⟩ := ry
  obtain ⟨z, its, n, r, hl, e⟩ := I.lstM hH
  have hlen : its.toArray.size * k.toNat ≤ sizeLine := by rw [List.size_toArray, ← hl]; exact hz
  have hcap : ¬ its.toArray.size * k.toNat > (2 ^ 63 - 1) / 8 := by
    have : (sizeLine : Nat) ≤ (2 ^ 63 - 1) / 8 := by decide
    omega
  have hfit : ¬ (!Builtin.List.listFitsIndex k) = true := by
    rw [fitsIndex_both h1 h2]
    exact Bool.false_ne_true
  have hlong : ¬ Builtin.List.listTooLong (its.toArray.size * k.toNat) = true := by
    rw [notLongL hlen]
    exact Bool.false_ne_true
  have hnew : List.foldl (fun x1 x2 => x1 ++ x2) #[] (List.replicate (if its.toArray.isEmpty = true then 0 else k.toNat) its.toArray) = (List.replicate k.toNat its).flatten.toArray := by
    have f0 : ∀ m : Nat, List.foldl (fun x1 x2 => x1 ++ x2) #[] (List.replicate m its.toArray) = (List.replicate m its).flatten.toArray := fun m => by
      have := foldl_rep its m []
      rw [List.nil_append] at this
      exact this
    rw [f0]
    cases its with
    | nil => simp
    | cons a r' => rw [if_neg (by simp)]
  refine wpAny_binaryOp_repeat_ref (T := "list") (U := "int") (by decide) ⟨_, e, rfl⟩ (fun s' => typeIs_int s' k t) noFill_list_mul F.fills_int_mul F.slot_int_rmul repeat_list F.slot_int_index.lookup
    (call_meets F.slot_int_rmul (typeIs_int s k t) F.entry_int_rmul (F.args_int_rmul_2 _ _) (int___rmul___int_list k t l its.toArray n)
      ⟨e, rfl, ⟨_, e, rfl⟩, call_meets F.slot_list_mul ⟨_, e, rfl⟩ F.entry_list_mul (F.args_list_mul_2 _ _) (AutoListH.list___mul___list_int_3 l its.toArray n k t hfit hcap hlong) ⟨e, ?_⟩⟩)
  rw [hnew]
  exact ⟨.ref _, _, I.lnew (t' := s.toks) (r.rep k.toNat) (by rw [len_rep, Nat.mul_comm]; exact hz), rfl, q _ I.fresh⟩

/-! ### del xs[i] -/
theorem del_list {pins : List (Addr × Obj)} {s : Shared} {σ : St} {H : Hp} {l : Addr} {xs : List V} {i : Int} {t : Tok} {k : Nat} {Q : Unit → Shared → Prop} (I : Inv X pins σ H s) (hH : H l = some (.lst xs))
    (h1 : -(2 ^ 63) ≤ i) (h2 : i < 2 ^ 63) (hk : seqIndex? i xs.length = some k) (h : ∀ s', Inv X pins σ (upd H l (.lst (xs.eraseIdx k))) s' → Q () s') :
    wpAny (model X.prog X.w) X.A (delItem (.ref l) (.int i t)) Q X.xe s := by
  obtain ⟨z, its, n, r, hl, e⟩ := I.lstM hH
  refine PySem.P.delItem_list (k := k) e (fitsIndex_both h1 h2) (by rw [List.size_toArray, ← hl]; exact hk) (h _ ?_) (by rw [List.size_toArray]; omega)
  refine I.lset (its' := its.eraseIdx k) (t' := s.toks) hH e ?_ (r.eraseIdx k) ?_
  · show its.toArray.eraseIdxIfInBounds k = (its.eraseIdx k).toArray
    rw [List.eraseIdxIfInBounds_toArray]
  · have := len_erase xs k
    omega
end

/-! ### xs[a:b] = ys -/
section
variable {prog : Program} {w : World} {A : Around} {E : Value → Shared → Prop} {s : Shared}
theorem splice_eq (its its2 : List Value) (a c : Nat) : its.toArray.extract 0 a ++ its2.toArray ++ its.toArray.extract c its.toArray.size = (its.take a ++ its2 ++ its.drop c).toArray := by
  apply Array.toList_inj.mp
  first
    | (simp
       exact List.take_of_length_le (by simp))
    | simp [List.take_of_length_le]
    | simp
theorem bounds_run {a c n : Nat} (hac : a ≤ c) (hc : c ≤ n) : sliceBounds (some (a : Int)) (some (c : Int)) none n = ((a : Int), (c : Int), 1) := by
  simp only [sliceBounds, Option.getD_none]
  have h1 : ¬ ((a : Int) < 0) := by omega
  have h2 : ¬ ((c : Int) < 0) := by omega
  simp only [h1, h2, if_false, show (1 : Int) > 0 by decide, if_true]
  congr 1
  · omega
  · congr 1; omega
set_option maxRecDepth 100000 in
/-- list.__setitem__ with a slice of step one and another list -/
theorem setItem_slice {l b sl : Addr} {items new : Array Value} {n n2 : Nat} {vl vu : Value} {a c : Nat} {Q : Unit → Shared → Prop}
    (e : s.heap.get? l = some { cls := .type "list", data := .seq items n }) (e2 : s.heap.get? b = some { cls := .type "list", data := .seq new n2 }) (hne : l ≠ b)
    (hs : s.heap.IsSliceOf sl vl vu .none) (pl : IsPart vl (some (a : Int))) (pu : IsPart vu (some (c : Int))) (hac : a ≤ c) (hc : c ≤ items.size)
    (hsz : items.size + new.size ≤ sizeLine) (h : Q () { s with heap := s.heap.update l (Obj.mapSeq fun xs => xs.extract 0 a ++ new ++ xs.extract c xs.size) }) :
    wpAny (model prog w) A (setItem (.ref l) (.ref sl) (.ref b)) Q E s := by
  have hl : s.heap.IsList l items := PySem.IsL.isList e
  have hb : s.heap.IsList b new := PySem.IsL.isList e2
  obtain ⟨os, hos, hcs, hds⟩ := id hs
  have hTs : s.TypeIs (.ref sl) "slice" := ⟨os, hos, hcs⟩
  have hstep : ¬ ((rawPart none == rawInt 0) = true) := Bool.false_ne_true
  have hsame : Builtin.List.listSameRef (.ref l) (.ref b) = false := by
    unfold Builtin.List.listSameRef
    exact beq_eq_false_iff_ne.mpr hne
  have hmax : (max (a : Int) (c : Int)).toNat = c := by omega
  have hz' : ((fun xs : Array Value => xs.extract 0 a ++ new ++ xs.extract c xs.size) items).size ≤ sizeLine + 1 := by
    simp only [Array.size_append, Array.size_extract]
    omega
  unfold setItem
  try with_reducible refine wpAny_holding ?_
  first | refine wpAny_bind (wpAny_pure ?_) | skip
  refine wpAny_bind (wpAny_sequenceKey hl.typeIs (by decide) ?_)
  refine wpAny_bind (wpAny_callSpecial?_slot (name := Str.ofString "__setitem__") hl.typeIs slot_list_setitem
    (wpAny_call_entry slot_list_setitem hl.typeIs entry_list_setitem ?_ (args_list_setitem _ _ _)))
  show wpAny _ _ (Builtin.List.listSubscript? (.ref sl) >>= _) _ _ s
  refine wpAny_bind ?_
  unfold Builtin.List.listSubscript?
  refine wpAny_bind (wpAny_specialOf hTs slice_no_index ?_)
  simp only [Option.isNone_none, if_true]
  refine wpAny_pure ?_
  show wpAny _ _ (typeOf (.ref sl) >>= _) _ _ s
  refine wpAny_bind (wpAny_typeOf hTs ?_)
  first
    | rw [if_neg (by decide)]
    | refine PySem.W.KFB.if_not (by decide) ?_
  rw [listSliceParts_eq]
  refine wpAny_bind (wpAny_bind (wpAny_field hos hds (x := .none) rfl (wpAny_bind (wpAny_listPart .none ?_))))
  rw [if_neg hstep]
  refine wpAny_bind (wpAny_field hos hds (x := vl) rfl (wpAny_bind (wpAny_listPart pl ?_)))
  refine wpAny_bind (wpAny_field hos hds (x := vu) rfl (wpAny_bind (wpAny_listPart pu (wpAny_pure ?_))))
  first
    | simp only [hsame, Bool.false_eq_true, if_false]
    | refine PySem.W.KFB.if_not hsame ?_
    | (dsimp only
       rw [if_neg (by rw [hsame]; exact Bool.false_ne_true)])
  refine wpAny_bind (m := Builtin.List.listAllItems (.ref b) "must assign iterable to extended slice") ?_
  unfold Builtin.List.listAllItems
  refine wpAny_bind (wpAny_typeOf hb.typeIs ?_)
  first
    | refine PySem.W.KFB.if_so (by decide) ?_
    | rw [if_pos (by decide)]
    | simp only [beq_self_eq_true, Bool.true_or, if_true]
  unfold Builtin.List.listItems
  refine wpAny_bind (wpAny_seqItems e2 rfl (wpAny_pure ?_))
  refine wpAny_bind (wpAny_bind (wpAny_seqItems e rfl (wpAny_pure ?_)))
  refine wpAny_bind (wpAny_of_eq ((sliceIndices_raw (some (a : Int)) (some (c : Int)) none items.size (by simp)).trans (congrArg (pure : Int × Int × Int → Sem (Int × Int × Int)) (bounds_run hac hc))) ?_)
  show wpAny _ _ (if ((1 : Int) == 1) = true then _ else _) _ _ s
  rw [if_pos (by decide)]
  refine wpAny_bind (wpAny_rule ?_)
  first
    | simp only [notLongL hsz, Bool.false_eq_true, if_false]
    | refine PySem.W.KFB.if_not (notLongL hsz) ?_
  first | refine wpAny_bind (wpAny_pure ?_) | skip
  show wpAny _ _ (updateSeq l (fun xs => xs.extract 0 ((a : Int)).toNat ++ new ++ xs.extract (max (a : Int) (c : Int)).toNat xs.size) >>= _) _ _ s
  rw [hmax, Int.toNat_natCast]
  refine wpAny_bind (wpAny_updateSeq (hz := Nat.le_trans (Nat.le_add_right _ _) hsz) (_hz' := hz') e rfl ?_)
  refine wpAny_bind (wpAny_letGo ?_)
  first
    | exact wpAny_bind (wpAny_pure (wpAny_pure ⟨.none, rfl, wpAny_pure h⟩))
    | exact wpAny_pure ⟨.none, rfl, wpAny_pure h⟩
end

section
variable {X : Cx}
/-- xs[a:c] = ys of another list, at the value level: sl is the slice object that was just made -/
theorem set_slice {pins : List (Addr × Obj)} {s : Shared} {σ : St} {H : Hp} {l b sl : Addr} {xs ys : List V} {a c : Int} {vl vu : Value} {Q : Unit → Shared → Prop} (I : Inv X pins σ H s)
    (hH : H l = some (.lst xs)) (hB : H b = some (.lst ys)) (hne : l ≠ b) (hs : s.heap.IsSliceOf sl vl vu .none) (ra : RelV (.int a) vl) (rc : RelV (.int c) vu) (h0 : 0 ≤ a) (hac : a ≤ c) (hc : c ≤ xs.length)
    (hz : xs.length + ys.length ≤ sizeLine) (h : ∀ s', Inv X pins σ (upd H l (.lst (xs.take a.toNat ++ ys ++ xs.drop c.toNat))) s' → Q () s') :
    wpAny (model X.prog X.w) X.A (setItem (.ref l) (.ref sl) (.ref b)) Q X.xe s := by
  obtain ⟨ta, rfl⟩ := ra
  obtain ⟨tc, rfl⟩ := rc
  obtain ⟨z, its, n, r, hl, e⟩ := I.lstM hH
  obtain ⟨z2, its2, n2, r2, hl2, e2⟩ := I.lstM hB
  obtain ⟨a', rfl⟩ := Int.eq_ofNat_of_zero_le h0
  obtain ⟨c', rfl⟩ := Int.eq_ofNat_of_zero_le (Int.le_trans h0 hac)
  simp only [Int.toNat_natCast] at h
  refine setItem_slice (a := a') (c := c') e e2 hne hs (.int _ _) (.int _ _) (by omega) (by rw [List.size_toArray]; omega) (by rw [List.size_toArray, List.size_toArray]; omega) (h _ ?_)
  refine I.lset (its' := its.take a' ++ its2 ++ its.drop c') (t' := s.toks) hH e ?_ (Vals.append (Vals.append (r.take _) r2) (r.drop _)) ?_
  · exact splice_eq its its2 a' c'
  · rw [List.length_append, List.length_append, List.length_take, List.length_drop]
    omega
end
end L2

namespace Att
open PySem PySem.W PySem.Calls PyProof.Rows

/-! ### the script -/
theorem ints_of_wellAll {P : Params} {h : Heap} : ∀ (ns : List Int) (vs : List Value), WellAll P h vs (ns.map WData.int) → IntsAre vs ns := by
  intro ns
  induction ns with
  | nil =>
    intro vs w
    rw [List.map_nil] at w
    cases w
    exact .nil
  | cons n ns ih =>
    intro vs w
    rw [List.map_cons] at w
    cases w with
    | cons a b =>
      cases a
      exact .cons _ _ (ih _ b)

theorem script_of {l : OpenLaw} {n : Nat} (hn : l.most = some n) {P : Params} {h : Heap} {args : List WData} {vals : List Value}
    (hpre : l.row.toRowW.claim.pre args = true) (hwl : WellAll P h vals args) :
    ∃ a vs ns, vals = [Value.ref a] ∧ args = [WData.list (ns.map WData.int)] ∧ h.get? a = some { cls := .type "list", data := .seq vs.toArray } ∧ IntsAre vs ns ∧ ns.length ≤ n := by
  have hsh : WShape.hasAll [] args [.list .int] = true := (pre_splitW hpre).1
  have hc : l.pre.holds [] { args := args } = true := (pre_splitW hpre).2
  obtain ⟨d, r, rfl, h1, h2⟩ := hasAllW_cons hsh
  obtain rfl := hasAllW_nil h2
  obtain ⟨xs, rfl, h3⟩ := hasW_list h1
  obtain ⟨ns, rfl⟩ := items_int h3
  have hlen : ns.length ≤ n := by
    unfold OpenLaw.pre at hc
    have h4 : (WTm.not (.lt (.lit (.int (n : Int))) (.len (.arg 0)))).holds [] { args := [.list (ns.map .int)] } = true := by
      have h4 := (holds_andW hc).1
      rw [hn] at h4
      exact h4
    have h5 := condW_of h4 (w_not (w_lt w_lit (w_len_list (w_arg rfl))))
    rw [List.length_map] at h5
    refine Nat.le_of_not_lt fun q => ?_
    have q' : (n : Int) < ((ns.length : Nat) : Int) := by omega
    first
      | (rw [decide_eq_true q'] at h5; exact absurd h5 (by decide))
      | (simp at h5; omega)
  cases hwl with
  | cons w1 w2 =>
    cases w2
    cases w1 with
    | list ho hall => exact ⟨_, _, ns, rfl, rfl, ho, ints_of_wellAll ns _ hall, hlen⟩

theorem post_true (l : OpenLaw) (args : List WData) : l.row.toRowW.claim.post args (.bool true) args = true :=
  postW_of (r := l.row.toRowW) (X := (true == true))
    (show WShape.has [] (.bool true) .bool = true by first | rfl | decide | simp [WShape.has, WShape.arms, WShape.armsAll])
    (show (WTm.eq .res (.lit (.bool true))).value [] { args := args, res := some (.bool true), after := args } = some (.bool (true == true)) from w_eq_bool (w_res rfl) w_lit) rfl

/-! ### the attachment: holds_open's last premise (the goal 'hc' behind k_head) from a wpAny of the law's body -/
theorem attach {l : OpenLaw} {n : Nat} {q : Program} {loose : List Str} {XP : (Str → Option Value) → Heap → Prop} {YP : World → Heap → Prop} {d : DefRec} {x : Str}
    (hn : l.most = some n) (hdf : d.params.defaults = [])
    (hbind : ∀ pm cd doc v : Value, bindArgs (docDef d.name d.params d.body d.scope pm cd doc) ⟨[v], []⟩ = pure [(x, v)])
    (hx : d.scope.names.lookup x = some .local ∨ d.scope.names.lookup x = some .cell)
    (hk : d.scope.kind = .function) (hco : d.scope.isCoroutine = false) (hgen : d.scope.isGenerator = false)
    (body : ∀ (w : World) (s₀ s₁ s : Shared) (mg mb : Str → Option Value) (fa : Addr) (o : Obj) (pm cd doc : Value) (a : Addr) (vs : List Value) (ns : List Int),
      Ground q loose [] XP w s₀ mg mb s₁.heap → YP w s₁.heap →
      s₁.heap.get? fa = some o → o.data = .func (docDef d.name d.params d.body d.scope pm cd doc) → s₁.heap.CodeRec cd d.name → mg d.name = some (.ref fa) →
      s₁.heap.get? a = some { cls := .type "list", data := .seq vs.toArray } → IntsAre vs ns → ns.length ≤ n →
      s.gens = #[] → s.os = s₁.os →
      Fr s₁.heap s₁.heap.objs.size s.heap (bindL (envOfC d.name d.scope s₁.heap.objs.size fa cd).kindOf [(x, .ref a)] fun _ => none) →
      Cl s₁.heap.objs.size (cellsFrom (s₁.heap.objs.size + 1) d.scope.names []) s.heap (bindC (envOfC d.name d.scope s₁.heap.objs.size fa cd).kindOf [(x, .ref a)] fun _ => none) →
      wpAny (model l.prog w) (callerA.deeper (envOfC d.name d.scope s₁.heap.objs.size fa cd)) (execs d.body (envOfC d.name d.scope s₁.heap.objs.size fa cd))
        (fun f s' => f = .ret (.bool true) ∧ OldK s₁.heap s'.heap ∧ s'.os = s₁.os ∧ AllBare s'.gens) (fun _ _ => False) s) :
    WalkO q loose XP YP l.row.toRowW d [] (fun f vs => PySem.call f vs) := by
  intro w s₀ s₁ mg mb G Y fa o pm cd doc dV kV ho hd hcd hD hmg hg args vals as hpre hlay hrd hwl hlo
  obtain rfl : dV = .none := Dflts.none hD hdf
  obtain rfl : kV = .none := Dflts.noKw hD
  obtain ⟨a, vs, ns, rfl, rfl, hobj, hints, hlen⟩ := script_of hn hpre hwl
  refine enter_call ?_
  refine call_cells_ret (o := o) (by rw [depth_caller]; decide) ho (fd_plain hd) G.T.nolimit hcd (hbind pm cd doc (.ref a)) (fun y hy => ?_) (fun h₁ tk F X => ?_) hco hgen hk
  · obtain rfl : y = (x, Value.ref a) := List.mem_singleton.mp hy
    rcases hx with e | e
    · exact .inl e
    · exact .inr ⟨e, cellsFrom_some _ _ _ (.inl e)⟩
  · refine wpAny_mono (body w s₀ s₁ { s₁ with heap := h₁, toks := tk } mg mb fa o pm cd doc a vs ns G Y ho (fd_plain hd) hcd hmg hobj hints hlen hg rfl F X) (fun f s' hq => ?_) (fun _ _ hq => hq)
    obtain ⟨rfl, h2, h3, h4⟩ := hq
    exact ⟨.inl ⟨.bool true, .bool true, [], rfl, fun _ => rfl, .bool true, post_true l _, fun _ => ⟨List.Pairwise.nil, fun _ hm => (nomatch hm)⟩⟩, h2, h3, h4⟩

/-- the same from a codeAny of the CALL (for a layer whose function contracts speak of calls) -/
theorem attach_call {l : OpenLaw} {n : Nat} {q : Program} {loose : List Str} {XP : (Str → Option Value) → Heap → Prop} {YP : World → Heap → Prop} {d : DefRec}
    (hn : l.most = some n) (hdf : d.params.defaults = [])
    (call : ∀ (w : World) (s₀ s₁ : Shared) (mg mb : Str → Option Value) (fa : Addr) (o : Obj) (pm cd doc : Value) (a : Addr) (vs : List Value) (ns : List Int),
      Ground q loose [] XP w s₀ mg mb s₁.heap → YP w s₁.heap →
      s₁.heap.get? fa = some o → o.data = .func (docDef d.name d.params d.body d.scope pm cd doc) → s₁.heap.CodeRec cd d.name → mg d.name = some (.ref fa) →
      s₁.heap.get? a = some { cls := .type "list", data := .seq vs.toArray } → IntsAre vs ns → ns.length ≤ n → s₁.gens = #[] →
      codeAny (model l.prog w) callerA (.call (.ref fa) ⟨[.ref a], []⟩) (fun r s' => r = .ok (.ret (.bool true)) ∧ OldK s₁.heap s'.heap ∧ s'.os = s₁.os ∧ AllBare s'.gens) s₁) :
    WalkO q loose XP YP l.row.toRowW d [] (fun f vs => PySem.call f vs) := by
  intro w s₀ s₁ mg mb G Y fa o pm cd doc dV kV ho hd hcd hD hmg hg args vals as hpre hlay hrd hwl hlo
  obtain rfl : dV = .none := Dflts.none hD hdf
  obtain rfl : kV = .none := Dflts.noKw hD
  obtain ⟨a, vs, ns, rfl, rfl, hobj, hints, hlen⟩ := script_of hn hpre hwl
  refine enter_call (codeAny_mono (call w s₀ s₁ mg mb fa o pm cd doc a vs ns G Y ho (fd_plain hd) hcd hmg hobj hints hlen hg) fun r s' hq => ?_)
  obtain ⟨rfl, h2, h3, h4⟩ := hq
  exact ⟨.inl ⟨.bool true, .bool true, [], rfl, fun _ => rfl, .bool true, post_true l _, fun _ => ⟨List.Pairwise.nil, fun _ hm => (nomatch hm)⟩⟩, h2, h3, h4⟩

/-- the same where the top left finished generators (o_head chose holds_openN): nothing may have changed at all and no generator may be left -/
theorem attachN {l : OpenLaw} {n : Nat} {q : Program} {loose : List Str} {XP : (Str → Option Value) → Heap → Prop} {YP : World → Heap → Prop} {d : DefRec} {x : Str}
    (hn : l.most = some n) (hdf : d.params.defaults = [])
    (hbind : ∀ pm cd doc v : Value, bindArgs (docDef d.name d.params d.body d.scope pm cd doc) ⟨[v], []⟩ = pure [(x, v)])
    (hx : d.scope.names.lookup x = some .local ∨ d.scope.names.lookup x = some .cell)
    (hk : d.scope.kind = .function) (hco : d.scope.isCoroutine = false) (hgen : d.scope.isGenerator = false)
    (body : ∀ (w : World) (s₀ s₁ s : Shared) (mg mb : Str → Option Value) (fa : Addr) (o : Obj) (pm cd doc : Value) (a : Addr) (vs : List Value) (ns : List Int),
      Ground q loose [] XP w s₀ mg mb s₁.heap → YP w s₁.heap →
      s₁.heap.get? fa = some o → o.data = .func (docDef d.name d.params d.body d.scope pm cd doc) → s₁.heap.CodeRec cd d.name → mg d.name = some (.ref fa) →
      s₁.heap.get? a = some { cls := .type "list", data := .seq vs.toArray } → IntsAre vs ns → ns.length ≤ n →
      s.gens = #[] → s.os = s₁.os →
      Fr s₁.heap s₁.heap.objs.size s.heap (bindL (envOfC d.name d.scope s₁.heap.objs.size fa cd).kindOf [(x, .ref a)] fun _ => none) →
      Cl s₁.heap.objs.size (cellsFrom (s₁.heap.objs.size + 1) d.scope.names []) s.heap (bindC (envOfC d.name d.scope s₁.heap.objs.size fa cd).kindOf [(x, .ref a)] fun _ => none) →
      wpAny (model l.prog w) (callerA.deeper (envOfC d.name d.scope s₁.heap.objs.size fa cd)) (execs d.body (envOfC d.name d.scope s₁.heap.objs.size fa cd))
        (fun f s' => f = .ret (.bool true) ∧ (∀ b o, s₁.heap.get? b = some o → s'.heap.get? b = some o) ∧ s'.os = s₁.os ∧ s'.gens = #[]) (fun _ _ => False) s) :
    WalkN q loose XP YP l.row.toRowW d [] (fun f vs => PySem.call f vs) := by
  intro w s₀ s₁ mg mb G Y fa o pm cd doc dV kV ho hd hcd hD hmg hg args vals as hpre hlay hrd hwl hlo
  obtain rfl : dV = .none := Dflts.none hD hdf
  obtain rfl : kV = .none := Dflts.noKw hD
  obtain ⟨a, vs, ns, rfl, rfl, hobj, hints, hlen⟩ := script_of hn hpre hwl
  refine enter_callW ?_
  refine call_cells_ret (o := o) (by rw [depth_caller]; decide) ho (fd_plain hd) G.T.nolimit hcd (hbind pm cd doc (.ref a)) (fun y hy => ?_) (fun h₁ tk F X => ?_) hco hgen hk
  · obtain rfl : y = (x, Value.ref a) := List.mem_singleton.mp hy
    rcases hx with e | e
    · exact .inl e
    · exact .inr ⟨e, cellsFrom_some _ _ _ (.inl e)⟩
  · refine wpAny_mono (body w s₀ s₁ { s₁ with heap := h₁, toks := tk } mg mb fa o pm cd doc a vs ns G Y ho (fd_plain hd) hcd hmg hobj hints hlen hg rfl F X) (fun f s' hq => ?_) (fun _ _ hq => hq)
    obtain ⟨rfl, h2, h3, h4⟩ := hq
    exact ⟨.inl ⟨.bool true, .bool true, [], rfl, fun _ => rfl, .bool true, post_true l _, fun _ => ⟨List.Pairwise.nil, fun _ hm => (nomatch hm)⟩⟩, h2, h3, h4⟩

/-! ### rules over ANY heap (no ledger) from facts about the written part K: the library's own take a ledger (News) for what they write -/
section
variable {prog : Program} {w : World} {A : Around} {E : Value → Shared → Prop} {s : Shared} {K : Frag}

/-- a def of the module, or a method (qual 'C.m'), entered: the frame is the next address; cells behind it -/
theorem call_fn {R : Result → Shared → Prop} {name qual : Str} {params : Arguments} {body : List Stmt} {scope : Scope} {dV kV doc pm cdv ct oc : Value} {an od : Option Addr} {osl : Array (Option Value)} {f : Addr} {args : Args} {binds : List (Str × Value)}
    (X : K.In s.heap) (hlim : s.heap.NoLimit) (ho : K.lookup f = some ⟨oc, od, .func (fnOf name qual params body scope dV kV doc pm an cdv ct), osl⟩) (hcd : codeIn K cdv qual = true) (hroom : A.depth < recursionLimit)
    (hbind : BindsTo s (fnOf name qual params body scope dV kV doc pm an cdv ct) args binds)
    (hkind : (binds.all fun y => scope.names.lookup y.1 == some .local || scope.names.lookup y.1 == some .cell) = true)
    (h : ∀ s₁, InCallC s s.heap.objs.size (bindL (envOfC qual scope s.heap.objs.size f cdv).kindOf binds fun _ => none) (cellsFrom (s.heap.objs.size + 1) scope.names [])
        (bindC (envOfC qual scope s.heap.objs.size f cdv).kindOf binds fun _ => none) s₁ →
      wpAny (model prog w) (A.deeper (envOfC qual scope s.heap.objs.size f cdv)) (execs body (envOfC qual scope s.heap.objs.size f cdv))
        (fun fl s' => R (.ok (.ret (match fl with | .ret v => v | _ => .none))) s')
        (fun e s' => wpAny (model prog w) (A.deeper (envOfC qual scope s.heap.objs.size f cdv)) (leaving (envOfC qual scope s.heap.objs.size f cdv) e) (fun _ s'' => R (.error e) s'') (fun e' s'' => R (.error e') s'') s') s₁)
    (hco : scope.isCoroutine = false) (hgen : scope.isGenerator = false) (hk : scope.kind = .function) : codeAny (model prog w) A (.call (.ref f) args) R s := by
  refine codeAny_call_function hroom (X _ _ ho) rfl hco hgen rfl (codeRec_of X hcd) (hbind _ _ _ _ ?_)
  refine wpAny_newFunctionEnv_cells hk (kindsX hkind _) fun env he s₁ x => ?_
  subst he
  exact ⟨hlim.keeps x.toInCall.keep, codeAny_func (h s₁ x)⟩

/-- C(..): dict at size, instance at size + 1, then __init__ -/
theorem make_obj {R : Result → Shared → Prop} {C fI : Addr} {rest : List Value} {kw : List (Str × Value)}
    (X : K.In s.heap) (hm : makesIn K C = true) (hi : findIn K (.ref C) "__init__" = some (some (.ref fI))) (hf : isFn K (.ref fI) = true)
    (h : codeAny (model prog w) (A.under (.builtin "type.__call__" ⟨.ref C :: rest, kw⟩)) (.call (.ref fI) ⟨.ref (s.heap.objs.size + 1) :: rest, kw⟩) (InitBack (s.heap.objs.size + 1) R)
      { s with heap := (s.heap.push emptyDict).push (instObj C s.heap.objs.size) }) : codeAny (model prog w) A (.call (.ref C) ⟨rest, kw⟩) R s := by
  obtain ⟨hh, g, d, t, os⟩ := s
  exact make_core (makes_of X hm) (looks_findIn X hi) (fun self => bind_fn X self (beq_iff_eq.mp hf)) (.inl rfl) h

/-- x.name where the instance's dict holds the name and the class does not -/
theorem get_field {x C : Addr} {ox : Obj} {es : List DictEntry} {n : Nat} {name : Str} {expr : Bool} {v : Value} {Q : Value → Shared → Prop}
    (X : K.In s.heap) (I : PySem.W.InstAt s.heap x ox C (some (dictOf es n))) (hg : plainGet K C name = true) (hh : hasDictIn K C = true) (ha : findIn K (.ref C) name = some none)
    (hl : getL name es = some (some v)) (hv : handedIn v = true) (h : Q v { s with toks := s.toks + 1 }) : wpAny (model prog w) A (getAttr (.ref x) name expr) Q E s :=
  get_value X I (plainGet_of hg).1 (findObj_own hh ha rfl hl) hv h

/-- x.m(..): the method found in the class -/
theorem get_method {x C f : Addr} {ox : Obj} {es : List DictEntry} {n : Nat} {name : Str} {pl : Sem Bool} {Q : Value × List Value → Shared → Prop}
    (X : K.In s.heap) (I : PySem.W.InstAt s.heap x ox C (some (dictOf es n))) (hg : plainGet K C name = true) (hf : findIn K (.ref C) name = some (some (.ref f))) (ht : isFn K (.ref f) = true)
    (hl : getL name es = some none) (h : Q (.ref f, [.ref x]) s) : wpAny (model prog w) A (getMethod (.ref x) name pl) Q E s :=
  method_fn X I (plainGet_of hg).1 (plainGet_of hg).2 hf (beq_iff_eq.mp ht) (by show (lookIn name (dictOf es n)).map _ = _; rw [lookIn_dict, hl]; rfl) h

/-! the whole heap as the ledger: makes every rule that writes through a ledger a rule over any heap -/
def noObjs (h : Heap) : Heap := { h with objs := #[] }
theorem noObjs_get (h : Heap) (b : Addr) : (noObjs h).get? b = none := by
  cases e : (noObjs h).get? b with
  | none => rfl
  | some o => exact absurd (Heap.lt_size e) (Nat.not_lt_zero _)
def ledger (h : Heap) (L d : Addr) : List (Addr × Obj) := (List.range h.objs.size).filterMap fun a => if a = L ∨ a = d then none else (h.get? a).map fun o => (a, o)
theorem mem_ledger {h : Heap} {L d a : Addr} {o : Obj} : (a, o) ∈ ledger h L d ↔ a ≠ L ∧ a ≠ d ∧ h.get? a = some o := by
  unfold ledger
  rw [List.mem_filterMap]
  constructor
  · rintro ⟨b, _, e⟩
    split at e
    · cases e
    · rename_i hb
      obtain ⟨o', ho, e'⟩ := Option.map_eq_some_iff.mp e
      cases e'
      exact ⟨fun q => hb (.inl q), fun q => hb (.inr q), ho⟩
  · rintro ⟨n1, n2, ho⟩
    refine ⟨a, List.mem_range.mpr (Heap.lt_size ho), ?_⟩
    rw [if_neg (show ¬ (a = L ∨ a = d) from fun q => q.elim n1 n2), ho] <;> rfl
theorem news_ledger {h : Heap} {L d : Addr} {od : Obj} (hne : d ≠ L) (ho : h.get? d = some od) : News (noObjs h) L h ([] ++ (d, od) :: ledger h L d) := by
  rintro ⟨a, o⟩ hp
  rcases List.mem_cons.mp hp with e | hp
  · cases e
    exact ⟨ho, hne, noObjs_get _ _⟩
  · obtain ⟨n1, n2, e⟩ := mem_ledger.mp hp
    exact ⟨e, n1, noObjs_get _ _⟩
theorem fr_all {h : Heap} {L : Addr} {m : Str → Option Value} (n : h.Ns L m) : Fr (noObjs h) L h m :=
  ⟨n, fun b o e => (by rw [noObjs_get] at e; cases e), Nat.zero_le _⟩
/-- Upd of the head entry (for append_K, setItem_K ..) -/
theorem upd_ledger {h : Heap} {L d : Addr} {o o' : Obj} : Upd d o o' ((d, o) :: ledger h L d) ((d, o') :: ledger h L d) :=
  .head fun ⟨_, _⟩ hp => (mem_ledger.mp hp).2.1

/-- x.name = v over any heap: L is any namespace of the heap (the frame's, say): its map stays, its object is not told; all else but the dict stays -/
theorem set_field {x C dx L : Addr} {ox : Obj} {m : Str → Option Value} {es es' : List DictEntry} {n n' : Nat} {name : Str} {v : Value} {Q : Unit → Shared → Prop}
    (X : K.In s.heap) (I : PySem.W.InstAt s.heap x ox C (some (dictOf es n))) (hd : ox.dict = some dx) (hL : s.heap.Ns L m) (hne : dx ≠ L)
    (hs : findIn K (.ref C) "__setattr__" = some (some (.builtin "object.__setattr__"))) (hp : plainOver K C = true) (ht : takerIn K C name = some none) (hh : hasDictIn K C = true) (hl : (getL name es).isSome = true)
    (e : (putL name (PyData.keyHash w.params name) (.str name (s.toks + 1)) v es, putN name es n) = (es', n')) (hz : es'.length ≤ 1000)
    (h : ∀ h' : Heap, h'.Ns L m → h'.get? dx = some (dictOf es' n') → (∀ b o, b ≠ dx → b ≠ L → s.heap.get? b = some o → h'.get? b = some o) → Q () { s with heap := h', toks := s.toks + 2 }) :
    wpAny (model prog w) A (setAttr (.ref x) name v) Q E s := by
  obtain ⟨e1, e2⟩ := Prod.mk.inj e
  have hdx : s.heap.get? dx = some (dictOf es n) := by
    have := I.dict
    rw [hd] at this
    exact this
  refine set_plain X I hs (osa_dict (s := { s with toks := s.toks + 1 }) (h₀ := noObjs s.heap) (L := L) (m := m) (od := dictOf es n) (od' := dictOf es' n') (es := es') (n := n') (pre := []) (post := ledger s.heap L dx)
    (fr_all hL) (news_ledger hne hdx) X I hd hp ht hh hl (fun _ q => nomatch q) (fun ⟨_, _⟩ q => (mem_ledger.mp q).2.1) (by rw [putName_dict, e1, e2]) rfl hz fun h' F' N' => ?_)
  exact h h' F'.ns (N'.get (List.Mem.head _)) fun b o n1 n2 ho => N'.get (List.Mem.tail _ (mem_ledger.mpr ⟨n2, n1, ho⟩))
end
end Att

namespace L2
open PySem PySem.Spec PyProof.Rows

theorem vals_ints : ∀ {vs : List Value} {ns : List Int}, IntsAre vs ns → Vals (ns.map V.int) vs
  | _, _, .nil => .nil
  | _, _, .cons n t h => .cons ⟨t, rfl⟩ (vals_ints h)

/-- nothing is tracked but the script, known to the object (or it is an object of the module) -/
def Only (H : Hp) : Prop := ∀ b, H b = none ∨ ∃ o xs, H b = some (.frz o (.lst xs))

/-- THE HEAD: the law's promise, at the heap behind the top. F, the promise of the law's def, may use that base is part of the heap (so K.In base, base.Ns mainGlobals mg stand in Mod) -/
theorem law_call {P : Program} {w : World} {K : PySem.W.Frag} {mg mb : Str → Option Value} {CX : CXT} {k : Nat} {fa a : Addr} {fd : FuncData} {x : Str} {sp : Sp} {s₁ : Shared} {vs : List Value} {ns : List Int}
    (KX : K.In s₁.heap) (hns : s₁.heap.Ns mainGlobals mg) (hb : s₁.heap.Ns builtinsNs mb) (hbb : ∀ x : Str, x ≠ "__name__" → mb x = bootBuiltins x) (hlim : s₁.heap.NoLimit) (hg : s₁.gens = #[])
    (ha : s₁.heap.get? a = some { cls := .type "list", data := .seq vs.toArray }) (hi : IntsAre vs ns) (hl : ns.length ≤ sizeLine) (hr : Room k callerA)
    (F : ∀ base : Heap, K.In base → base.Ns mainGlobals mg → FnOk P w K mg base CX k fa fd [x] sp) (hbind : ∀ (s : Shared) (u : Value), BindsTo s fd ⟨[u], []⟩ [(x, u)])
    (hsp : ∀ H : Hp, Only H → SqL K H a (ns.map V.int) → sp [.ref a] H (fun v _ => v = .bl true) fun _ _ _ => False)
    (hCX : ∀ H e s', CX [] H s₁ (fun _ _ _ => False) e s' → False) :
    codeAny (model P w) callerA (.call (.ref fa) ⟨[.ref a], []⟩) (fun r s' => r = .ok (.ret (.bool true)) ∧ OldK s₁.heap s'.heap ∧ s'.os = s₁.os ∧ AllBare s'.gens) s₁ := by
  have rv := vals_ints hi
  have lenV := hi.length
  -- from an abstract heap in which nothing but the script may be tracked
  have core : ∀ H : Hp, Only H → SqL K H a (ns.map V.int) → HOk P w H s₁.heap → (∀ b, H b ≠ none → b = a) → (H a ≠ none → K.lookup a = none) →
      codeAny (model P w) callerA (.call (.ref fa) ⟨[.ref a], []⟩) (fun r s' => r = .ok (.ret (.bool true)) ∧ OldK s₁.heap s'.heap ∧ s'.os = s₁.os ∧ AllBare s'.gens) s₁ := by
    intro H hO hS hok hA hK
    have base_of : ∀ {b : Addr} {o : Obj}, s₁.heap.get? b = some o → H b = none → (hidT s₁.heap H).get? b = some o := fun e n => hidT_get e n
    have noA : ∀ {b : Addr} {o : Obj} {es : Array DictEntry} {ep : Nat}, s₁.heap.get? b = some o → o.data = .dict es ep → H b = none := fun {b o es ep} e d => by
      cases q : H b with
      | none => rfl
      | some u =>
        have e' : b = a := hA b (by rw [q]; simp)
        subst e'
        rw [ha] at e; cases e
        have d' : Data.seq vs.toArray _ = Data.dict es ep := d
        cases d'
    have nsK : ∀ {b : Addr} {m : Str → Option Value}, s₁.heap.Ns b m → (hidT s₁.heap H).Ns b m := fun {b m} ⟨o, es, ep, e, d, r⟩ => ⟨o, es, ep, base_of e (noA e d), d, r⟩
    have hKb : K.In (hidT s₁.heap H) := fun b o e => base_of (KX b o e) (by
      cases q : H b with
      | none => rfl
      | some u =>
        have e' : b = a := hA b (by rw [q]; simp)
        subst e'
        rw [hK (by rw [q]; simp)] at e; cases e)
    have hM : Mod K mg (hidT s₁.heap H) := ⟨hKb, nsK hns, ⟨mb, nsK hb, hbb⟩, let ⟨mc, h1, h2⟩ := hlim; ⟨mc, nsK h1, h2⟩⟩
    have e0 : Env0 P w K mg (hidT s₁.heap H) callerA [] s₁ H := ⟨rfl, hM, fun b o e => of_hidT e, Nat.le_of_eq (hidT_size _ _), trivial, fun b hb => absurd (show b ∈ ([] : List Addr) from hb) (by simp), hok, .of_eq hg⟩
    refine codeAny_mono ((F _ hKb (nsK hns)).run callerA [] s₁ H ⟨[.ref a], []⟩ [.ref a] [.ref a] _ _ hr e0 (hbind s₁ (.ref a)) (.cons rfl .nil) (hsp H hO hS)) fun r s' h => ?_
    cases r with
    | error e => exact (hCX H e s' h).elim
    | ok fl =>
      cases fl with
      | next => exact False.elim h
      | brk => exact False.elim h
      | cont => exact False.elim h
      | ret u =>
        obtain ⟨v, H', os, bare, un, hok', r', q⟩ := h
        have q' : v = .bl true := q
        subst q'
        obtain rfl : u = Value.bool true := r'
        refine ⟨rfl, OldK.of_keep fun b o e => ?_, os, bare⟩
        cases q : H b with
        | none => exact un.keep b o e q (by intro z; exact absurd (show b ∈ ([] : List Addr) from z) (by simp)) (by simp)
        | some u =>
          rcases hO b with z | ⟨ob, xs, z⟩
          · rw [q] at z; cases z
          · have z2 := un.frzs b ob _ z
            obtain ⟨e1, _⟩ := hok b _ z
            obtain ⟨e2, _⟩ := hok' b _ z2
            rw [e] at e1; cases e1
            exact e2
  cases hk : K.lookup a with
  | some o =>
    -- the script is one of the module's own objects
    have e := KX a o hk
    rw [ha] at e
    cases e
    refine core (fun _ => none) (fun _ => .inl rfl) (.inr ⟨_, vs.toArray, _, hk, rfl, rfl, rfl, by rw [List.size_toArray, lenV]; exact hl, by simpa using rv⟩) (fun b u z => by have z' : (none : Option HO) = some u := z; cases z') (fun b z => absurd rfl z) fun z => absurd rfl z
  | none =>
    refine core (fun b => if b = a then some (.frz { cls := .type "list", data := .seq vs.toArray } (.lst (ns.map V.int))) else none) (fun b => ?_) (.inl (.inr ⟨{ cls := .type "list", data := .seq vs.toArray }, if_pos rfl⟩)) (fun b u z => ?_) (fun b z => ?_) fun _ => hk
    · by_cases hb : b = a
      · exact .inr ⟨_, _, if_pos hb⟩
      · exact .inl (if_neg hb)
    · by_cases hb : b = a
      · have z' := (if_pos hb).symm.trans z
        cases z'
        subst hb
        exact ⟨ha, by rw [List.length_map]; exact hl, vs, _, rv, ha⟩
      · have z' := (if_neg hb).symm.trans z
        cases z'
    · by_cases hb : b = a
      · exact hb
      · exact absurd (if_neg hb) z
end L2

namespace L2
open PySem PySem.Spec PyProof.Rows

abbrev KOf {K : PySem.W.Frag} {h : Heap} (_ : K.In h) : PySem.W.Frag := K

/-- the goal that k_head leaves (case hc), from the law's promise. F gives the function object fd (K's own) once, then the promise over every base -/
theorem walk_of {l : PySem.W.OpenLaw} {n k : Nat} {q : Program} {loose : List Str} {XP : (Str → Option Value) → Heap → Prop} {YP : World → Heap → Prop} {d : DefRec} {K : Params → PySem.W.Frag} {CX : World → CXT} {sp : World → Sp} {x : Str}
    (hn : l.most = some n) (hn2 : n ≤ sizeLine) (hdf : d.params.defaults = []) (hr : Room k callerA)
    (hY : ∀ (w : World) (h : Heap), YP w h → (K w.params).In h)
    (F : ∀ (w : World) (mg : Str → Option Value) (fa : Addr) (h : Heap), (K w.params).In h → h.Ns mainGlobals mg → mg d.name = some (.ref fa) →
      ∃ fd : FuncData, (∀ (s : Shared) (u : Value), BindsTo s fd ⟨[u], []⟩ [(x, u)]) ∧
        ∀ base : Heap, (K w.params).In base → base.Ns mainGlobals mg → FnOk l.prog w (K w.params) mg base (CX w) k fa fd [x] (sp w))
    (hsp : ∀ (w : World) (H : Hp) (a : Addr) (ns : List Int), ns.length ≤ n → Only H → SqL (K w.params) H a (ns.map V.int) → sp w [.ref a] H (fun v _ => v = .bl true) fun _ _ _ => False)
    (hCX : ∀ (w : World) (H : Hp) (s : Shared) (e : Value) (s' : Shared), CX w [] H s (fun _ _ _ => False) e s' → False) :
    PySem.W.WalkO q loose XP YP l.row.toRowW d [] (fun f vs => PySem.call f vs) := by
  refine Att.attach_call hn hdf fun w s₀ s₁ mg mb fa o pm cd doc a vs ns G Y ho hd hcd hmg hobj hints hlen hg => ?_
  have KX := hY w _ Y
  obtain ⟨fd, hb, hF⟩ := F w mg fa _ KX G.T.g hmg
  exact law_call KX G.T.g G.T.b G.T.builtins G.T.nolimit hg hobj hints (Nat.le_trans hlen hn2) hr hF hb (fun H hO hS => hsp w H a ns hlen hO hS) fun H e s' => hCX w H s₁ e s'
/-- the same where the promise hangs on the written part alone: (sp := My.sp_law), no hole under a binder -/
theorem walk_ofK {l : PySem.W.OpenLaw} {n k : Nat} {q : Program} {loose : List Str} {XP : (Str → Option Value) → Heap → Prop} {YP : World → Heap → Prop} {d : DefRec} {K : Params → PySem.W.Frag} {CX : CXT} {sp : PySem.W.Frag → Sp} {x : Str}
    (hn : l.most = some n) (hn2 : n ≤ sizeLine) (hdf : d.params.defaults = []) (hr : Room k callerA)
    (hY : ∀ (w : World) (h : Heap), YP w h → (K w.params).In h)
    (F : ∀ (w : World) (mg : Str → Option Value) (fa : Addr) (h : Heap), (K w.params).In h → h.Ns mainGlobals mg → mg d.name = some (.ref fa) →
      ∃ fd : FuncData, (∀ (s : Shared) (u : Value), BindsTo s fd ⟨[u], []⟩ [(x, u)]) ∧
        ∀ base : Heap, (K w.params).In base → base.Ns mainGlobals mg → FnOk l.prog w (K w.params) mg base CX k fa fd [x] (sp (K w.params)))
    (hsp : ∀ (K : PySem.W.Frag) (H : Hp) (a : Addr) (ns : List Int), ns.length ≤ n → Only H → SqL K H a (ns.map V.int) → sp K [.ref a] H (fun v _ => v = .bl true) fun _ _ _ => False)
    (hCX : ∀ (H : Hp) (s : Shared) (e : Value) (s' : Shared), CX [] H s (fun _ _ _ => False) e s' → False) :
    PySem.W.WalkO q loose XP YP l.row.toRowW d [] (fun f vs => PySem.call f vs) :=
  walk_of (K := K) (CX := fun _ => CX) (sp := fun w => sp (K w.params)) hn hn2 hdf hr hY F (fun w H a ns h1 h2 h3 => hsp (K w.params) H a ns h1 h2 h3) fun _ H s e s' => hCX H s e s'
end L2

/- THE LAST THEOREM (shape; LID, My.* are yours):
   My.Adr: a structure of the addresses that your layer names (classes, functions); My.Txt K t: a structure (Prop) of the equations over K;
   My.txt_mk : {K} {implicit addresses ..} (e1 : nsIn K mainGlobals "law" = some (some (.ref f))) (e2 : K.lookup f = some ⟨oc, od, .func (fnOf "law" "law" params body scope dV kV doc pm an cdv ct), sl⟩) (e3 : codeIn K cdv "law" = true) .. : ∃ t, My.Txt K t

set_option maxRecDepth 100000 in
set_option maxHeartbeats 0 in
theorem PySem.Challenge.cw_LID_holds : PySem.Challenge.rw_LID.Holds := by
  w_on; o_law; k_head; (case hw => w_witness2)
  k_fill
  refine L2.walk_of (l := PySem.Challenge.rw_LID) (n := 63) (k := 40) (x := "script") (CX := fun w => ..) (sp := fun _ => My.sp_law) rfl (by decide) rfl ⟨rfl, by decide, by decide⟩ (fun w h Y => PySem.W.kIn_of Y) ?F ?S ?C
  case F =>
    intro w mg fa h KX G hmg
    have T : ∃ t, My.Txt (L2.KOf KX) t := by
      dsimp only [L2.KOf]                          -- K must stand as «<heap const> w.params» for k_is
      refine' My.txt_mk ?e1 ?e2 ?e3 ..
      (case e1 => PySem.W.k_is)                    -- in the order: a name -> its address -> its object -> its parts
      (case e2 => PySem.W.k_is)
      ..
    obtain ⟨t, T⟩ := T
    have e0 := hmg.symm.trans (PySem.W.mg_of KX G T.law)
    cases e0                                       -- fa is the law's own address
    exact ⟨_, fun s u => .of_eq rfl, fun base kb nb => My.law_fn T kb nb⟩     -- if «.of_eq rfl» comes too early: refine' ⟨_, ?b, fun base kb nb => My.law_fn T kb nb⟩; exact fun s u => .of_eq rfl
  case S => exact fun w H a ns hl hO hS => ..
  case C => exact ..
(the tactic k_is has no namespace: write k_is) -/

/-! SHORT WORDS over the layer: a def of the text, its body, what a loop and a test want. -/
namespace L2
open PySem PySem.Spec PyProof.Rows

/-! ### the text by places -/
/-- the j-th statement of a class's body -/
def inClass (s : Stmt) (j : Nat) : Stmt := match s with
  | .ClassDef _ _ _ body _ _ _ _ _ _ _ => body.getD j (.Pass ⟨0, 0, 0, 0⟩)
  | _ => .Pass ⟨0, 0, 0, 0⟩
def defArgs (s : Stmt) : Arguments := match s with
  | .FunctionDef _ a _ _ _ _ _ _ _ _ => a
  | _ => { posonlyargs := [], args := [], vararg := none, kwonlyargs := [], kw_defaults := [], kwarg := none, defaults := [] }
def defBody (s : Stmt) : List Stmt := match s with
  | .FunctionDef _ _ b _ _ _ _ _ _ _ => b
  | _ => []
def defScope (s : Stmt) : Scope := match s with
  | .FunctionDef _ _ _ _ _ _ sc _ _ _ => sc
  | _ => { kind := .function, names := [], isGenerator := false, isCoroutine := false }

/-! ### no exception leaves a def -/
abbrev CX0 : CXT := fun _ _ _ _ _ _ => False
abbrev E0 : XK := fun _ _ _ => False
theorem pass0 {X : Cx} : Passes CX0 X E0 := fun _ _ _ _ _ _ _ h => h.elim

/-! ### a def (or method) of the text as it stands behind the top -/
structure Fun (K : PySem.W.Frag) (x qual : Str) (st : Stmt) (f : Addr) (fd : FuncData) : Prop where
  ex : ∃ (oc : Value) (od : Option Addr) (kV doc pm : Value) (an : Option Addr) (cdv ct : Value) (osl : Array (Option Value)),
    fd = PySem.W.fnOf x qual (defArgs st) (defBody st) (defScope st) .none kV doc pm an cdv ct ∧ K.lookup f = some ⟨oc, od, .func fd, osl⟩ ∧ PySem.W.codeIn K cdv qual = true
  kp : PySem.W.keepIn K (.ref f) = true
section
variable {P : Program} {w : World} {K : PySem.W.Frag} {mg : Str → Option Value} {base : Heap}
/-- THE RULE for a def: its body as a term of rules, and the reading of that term -/
theorem Fun.ok {x qual : Str} {st : Stmt} {f : Addr} {fd : FuncData} {N ps : List Str} {k : Nat} {sp : Sp} (F : Fun K x qual st f fd) (S : FnScope N ps (defScope st)) (len : ∀ vs H Q E, sp vs H Q E → vs.length = ps.length)
    (hbody : ∀ (cdv : Value) (A : Around) (outer : List Env) (s : Shared) (H : Hp) (vs : List V) (Q : VK) (E : XK), Room k (A.deeper (envOfC qual (defScope st) s.heap.objs.size f cdv)) → sp vs H Q E →
      ∃ t, PSs (cxOf CX0 P w K mg base N qual (defScope st) f cdv A outer s H E).nox (defBody st) t ∧ t { nx := fun _ H' => Q .non H', rt := Q } (start N vs) H) : FnOk P w K mg base CX0 (k + 1) f fd ps sp := by
  obtain ⟨oc, od, kV, doc, pm, an, cdv, ct, osl, rfl, lk, hcd⟩ := F.ex
  refine fn_of lk hcd S len fun A outer s H vs Q E hr hsp => ?_
  obtain ⟨t, h, q⟩ := hbody cdv A outer s H vs Q E hr hsp
  exact ⟨t, h.nox, q⟩
/-- how its arguments bind (no defaults): h is «fun _ _ _ _ _ _ us hl => match us, hl with | [_, _], _ => rfl», one _ a parameter -/
theorem Fun.binds {x qual : Str} {st : Stmt} {f : Addr} {fd : FuncData} {ps : List Str} (F : Fun K x qual st f fd)
    (h : ∀ (kV doc pm : Value) (an : Option Addr) (cdv ct : Value) (us : List Value), us.length = ps.length → bindArgs (PySem.W.fnOf x qual (defArgs st) (defBody st) (defScope st) .none kV doc pm an cdv ct) ⟨us, []⟩ = pure (ps.zip us)) : Binds K fd ps [] := by
  obtain ⟨oc, od, kV, doc, pm, an, cdv, ct, osl, rfl, lk, hcd⟩ := F.ex
  exact .all (h kV doc pm an cdv ct)
theorem fun_mk {x qual : Str} {st : Stmt} {f : Addr} {oc : Value} {od an : Option Addr} {osl : Array (Option Value)} {kV doc pm cdv ct : Value} (l : K.lookup f = some ⟨oc, od, .func (PySem.W.fnOf x qual (defArgs st) (defBody st) (defScope st) .none kV doc pm an cdv ct), osl⟩)
    (c : PySem.W.codeIn K cdv qual = true) (k : PySem.W.keepIn K (.ref f) = true) : Fun K x qual st f (PySem.W.fnOf x qual (defArgs st) (defBody st) (defScope st) .none kV doc pm an cdv ct) := ⟨⟨oc, od, kV, doc, pm, an, cdv, ct, osl, rfl, l, c⟩, k⟩
end
theorem hu_of {A : Around} {k : Nat} (hr : Room k A) : A.units + 1 < cLine := Nat.lt_of_le_of_lt (Nat.add_le_add_left (by decide : 1 ≤ 64) _) hr.units
theorem small1000 {n : Nat} (h : n ≤ 1000) : n < sizeLine := Nat.lt_of_le_of_lt h (by decide)

/-! ### expressions in short: the name that stands in the i-th slot -/
section
variable {X : Cx}
theorem pv (i : Nat) {x : Str} {pos : Pos} (hN : X.N[i]? = some x := by rfl) (hv : Vis X.env.scope x := by first | exact Or.inl rfl | exact Or.inr (Or.inl rfl) | exact Or.inr (Or.inr rfl)) (hd : (x == ("__debug__" : Str)) = false := by decide)
    (hcd : (x == ("__classdict__" : Str)) = false := by decide) : PE X (.Name x pos) (tVar i) := pe_var hN hv hd hcd
end

/-! ### tests -/
theorem iteF {A B : Prop} (h : B) : if false = true then A else B := by
  rw [if_neg Bool.false_ne_true]
  exact h
theorem iteT {A B : Prop} (h : A) : if true = true then A else B := by
  rw [if_pos rfl]
  exact h
theorem ite2 {c A B : Prop} [Decidable c] (h1 : c → A) (h2 : ¬ c → B) : if c then A else B := by
  by_cases h : c
  · rw [if_pos h]
    exact h1 h
  · rw [if_neg h]
    exact h2 h
theorem iteNS {c A B : Prop} [Decidable c] (hc : c) (h : B) : if (!decide c) = true then A else B := by
  rw [decide_eq_true hc]
  exact iteF h

/-! ### heaps -/
/-- all that was tracked is as it was -/
def Same (H H' : Hp) : Prop := ∀ b o, H b = some o → H' b = some o
theorem Same.refl (H : Hp) : Same H H := fun _ _ h => h
theorem Same.trans {H H1 H2 : Hp} (a : Same H H1) (b : Same H1 H2) : Same H H2 := fun c o h => b c o (a c o h)
theorem Same.free {H H' : Hp} (e : Same H H') {l : Addr} (h : H' l = Option.none) : H l = Option.none := by
  cases q : H l with
  | none => rfl
  | some o =>
    rw [e l o q] at h
    cases h
theorem Same.seq {K : PySem.W.Frag} {H H' : Hp} {a : Addr} {xs : List V} (e : Same H H') (h : SqL K H a xs) : SqL K H' a xs := by
  rcases h with (h | ⟨o, h⟩) | h
  · exact .inl (.inl (e _ _ h))
  · exact .inl (.inr ⟨o, e _ _ h⟩)
  · exact .inr h

end L2
namespace FD
open PySem PySem.Spec PyProof.Rows L2

/-! ### plain values, and how the abstract heap bears them -/
inductive Dv where
  | non | bl (b : Bool) | int (i : Int) | str (x : Str) | tup (xs : List Dv) | lst (xs : List Dv) | scr (ns : List Int) | exn (c : Nat)
/-- the refusals' names -/
def xnm : Nat → Str
  | 0 => "NoName" | 1 => "NoTable" | 2 => "NoPath" | 3 => "NoAsk" | 4 => "NoNote" | 5 => "NoJar" | 6 => "NoNumber" | 7 => "NoText" | 8 => "NoStep" | _ => "JarError"

mutual
def Rep (K : PySem.W.Frag) (H : Hp) : Dv → V → Prop
  | .non, v => v = .non
  | .bl b, v => v = .bl b
  | .int i, v => v = .int i
  | .str x, v => v = .str x
  | .tup ds, v => ∃ a xs, v = .ref a ∧ H a = some (.tup xs) ∧ Reps K H ds xs
  | .lst ds, v => ∃ a xs, v = .ref a ∧ H a = some (.lst xs) ∧ Reps K H ds xs
  | .scr ns, v => ∃ a, v = .ref a ∧ SqL K H a (ns.map V.int)
  | .exn c, v => ∃ a o u C, v = .ref a ∧ H a = some (.frz o u) ∧ o.cls = .ref C ∧ PySem.W.nsIn K mainGlobals (xnm c) = some (some (.ref C))
def Reps (K : PySem.W.Frag) (H : Hp) : List Dv → List V → Prop
  | [], vs => vs = []
  | d :: ds, vs => ∃ v us, vs = v :: us ∧ Rep K H d v ∧ Reps K H ds us
end

section
variable {K : PySem.W.Frag} {H H' : Hp}
mutual
theorem Rep.mono (e : Same H H') : ∀ (d : Dv) (v : V), Rep K H d v → Rep K H' d v
  | .non, _, h => h
  | .bl _, _, h => h
  | .int _, _, h => h
  | .str _, _, h => h
  | .tup ds, v, h => by
    obtain ⟨a, xs, r, h, q⟩ : ∃ a xs, v = .ref a ∧ H a = some (.tup xs) ∧ Reps K H ds xs := h
    exact ⟨a, xs, r, e _ _ h, Reps.mono e ds xs q⟩
  | .lst ds, v, h => by
    obtain ⟨a, xs, r, h, q⟩ : ∃ a xs, v = .ref a ∧ H a = some (.lst xs) ∧ Reps K H ds xs := h
    exact ⟨a, xs, r, e _ _ h, Reps.mono e ds xs q⟩
  | .scr ns, v, h => by
    obtain ⟨a, r, h⟩ : ∃ a, v = .ref a ∧ SqL K H a (ns.map V.int) := h
    exact ⟨a, r, e.seq h⟩
  | .exn c, v, h => by
    obtain ⟨a, o, u, C, r, h, q⟩ : ∃ a o u C, v = .ref a ∧ H a = some (.frz o u) ∧ o.cls = .ref C ∧ PySem.W.nsIn K mainGlobals (xnm c) = some (some (.ref C)) := h
    exact ⟨a, o, u, C, r, e _ _ h, q⟩
theorem Reps.mono (e : Same H H') : ∀ (ds : List Dv) (vs : List V), Reps K H ds vs → Reps K H' ds vs
  | [], _, h => h
  | d :: ds, vs, h => by
    obtain ⟨v, us, r, h, q⟩ : ∃ v us, vs = v :: us ∧ Rep K H d v ∧ Reps K H ds us := h
    exact ⟨v, us, r, Rep.mono e d v h, Reps.mono e ds us q⟩
end
theorem Reps.nil : Reps K H [] [] := rfl
theorem Reps.cons {d ds v vs} (h : Rep K H d v) (t : Reps K H ds vs) : Reps K H (d :: ds) (v :: vs) := ⟨v, vs, rfl, h, t⟩
theorem Reps.length : ∀ {ds : List Dv} {vs : List V}, Reps K H ds vs → vs.length = ds.length
  | [], vs, h => by cases (show vs = [] from h); rfl
  | d :: ds, vs, h => by
    obtain ⟨v, us, r, _, q⟩ : ∃ v us, vs = v :: us ∧ Rep K H d v ∧ Reps K H ds us := h
    subst r
    show us.length + 1 = ds.length + 1
    rw [Reps.length q]
theorem Reps.get : ∀ {ds : List Dv} {vs : List V} {i : Nat} {v : V}, Reps K H ds vs → vs[i]? = some v → ∃ d, ds[i]? = some d ∧ Rep K H d v
  | [], vs, i, v, h, e => by cases (show vs = [] from h); simp at e
  | d :: ds, vs, i, v, h, e => by
    obtain ⟨v', us, r, h', q⟩ : ∃ v us, vs = v :: us ∧ Rep K H d v ∧ Reps K H ds us := h
    subst r
    cases i with
    | zero => simp at e; subst e; exact ⟨d, rfl, h'⟩
    | succ i =>
      obtain ⟨d', e', r'⟩ := Reps.get (i := i) q (by simpa using e)
      exact ⟨d', by simpa using e', r'⟩
theorem Reps.get' : ∀ {ds : List Dv} {vs : List V} {i : Nat} {d : Dv}, Reps K H ds vs → ds[i]? = some d → ∃ v, vs[i]? = some v ∧ Rep K H d v
  | [], vs, i, v, h, e => by simp at e
  | d :: ds, vs, i, d0, h, e => by
    obtain ⟨v', us, r, h', q⟩ : ∃ v us, vs = v :: us ∧ Rep K H d v ∧ Reps K H ds us := h
    subst r
    cases i with
    | zero => simp at e; subst e; exact ⟨v', rfl, h'⟩
    | succ i =>
      obtain ⟨d', e', r'⟩ := Reps.get' (i := i) q (by simpa using e)
      exact ⟨d', by simpa using e', r'⟩
theorem Reps.append : ∀ {ds es : List Dv} {vs us : List V}, Reps K H ds vs → Reps K H es us → Reps K H (ds ++ es) (vs ++ us)
  | [], es, vs, us, h, q => by cases (show vs = [] from h); exact q
  | d :: ds, es, vs, us, h, q => by
    obtain ⟨v', vs', r, h', t⟩ : ∃ v us, vs = v :: us ∧ Rep K H d v ∧ Reps K H ds us := h
    subst r
    exact ⟨v', vs' ++ us, rfl, h', Reps.append t q⟩
theorem Reps.take : ∀ {ds : List Dv} {vs : List V} (n : Nat), Reps K H ds vs → Reps K H (ds.take n) (vs.take n)
  | ds, vs, 0, _ => by simp [Reps]
  | [], vs, n + 1, h => by cases (show vs = [] from h); exact rfl
  | d :: ds, vs, n + 1, h => by
    obtain ⟨v', vs', r, h', t⟩ : ∃ v us, vs = v :: us ∧ Rep K H d v ∧ Reps K H ds us := h
    subst r
    exact ⟨v', vs'.take n, rfl, h', Reps.take n t⟩
theorem Reps.drop : ∀ {ds : List Dv} {vs : List V} (n : Nat), Reps K H ds vs → Reps K H (ds.drop n) (vs.drop n)
  | ds, vs, 0, h => h
  | [], vs, n + 1, h => by cases (show vs = [] from h); exact rfl
  | d :: ds, vs, n + 1, h => by
    obtain ⟨v', vs', r, h', t⟩ : ∃ v us, vs = v :: us ∧ Rep K H d v ∧ Reps K H ds us := h
    subst r
    exact Reps.drop n t
theorem Rep.lstI {ds : List Dv} {a : Addr} {xs : List V} (h : H a = some (.lst xs)) (q : Reps K H ds xs) : Rep K H (.lst ds) (.ref a) := ⟨a, xs, rfl, h, q⟩
theorem Rep.tupI {ds : List Dv} {a : Addr} {xs : List V} (h : H a = some (.tup xs)) (q : Reps K H ds xs) : Rep K H (.tup ds) (.ref a) := ⟨a, xs, rfl, h, q⟩
theorem Rep.lstE {ds : List Dv} {v : V} (h : Rep K H (.lst ds) v) : ∃ a xs, v = .ref a ∧ H a = some (.lst xs) ∧ Reps K H ds xs := h
theorem Rep.tupE {ds : List Dv} {v : V} (h : Rep K H (.tup ds) v) : ∃ a xs, v = .ref a ∧ H a = some (.tup xs) ∧ Reps K H ds xs := h
theorem Rep.exnE {c : Nat} {v : V} (h : Rep K H (.exn c) v) : ∃ a o u C, v = .ref a ∧ H a = some (.frz o u) ∧ o.cls = .ref C ∧ PySem.W.nsIn K mainGlobals (xnm c) = some (some (.ref C)) := h
theorem Rep.scrE {ns : List Int} {v : V} (h : Rep K H (.scr ns) v) : ∃ a, v = .ref a ∧ SqL K H a (ns.map V.int) := h
end

theorem same_new {H : Hp} {p : Addr} (h : H p = none) (o : HO) : Same H (upd H p o) := fun b u q => by rw [upd_ne (ne_of_none q h)]; exact q

/-! ### names -/
abbrev Ev := List (Option Dv)
structure Envs (K : PySem.W.Frag) (H : Hp) (σ : L2.St) (ρ : Ev) : Prop where
  len : σ.length = ρ.length
  at' : ∀ (i : Nat) (d : Dv), ρ[i]? = some (some d) → ∃ v, σ[i]? = some (some v) ∧ Rep K H d v
theorem Envs.mono {K : PySem.W.Frag} {H H' : Hp} {σ : L2.St} {ρ : Ev} (E : Envs K H σ ρ) (e : Same H H') : Envs K H' σ ρ :=
  ⟨E.len, fun i d h => let ⟨v, h1, h2⟩ := E.at' i d h; ⟨v, h1, Rep.mono e d v h2⟩⟩
theorem Envs.set {K : PySem.W.Frag} {H : Hp} {σ : L2.St} {ρ : Ev} {i : Nat} {d : Dv} {v : V} (E : Envs K H σ ρ) (r : Rep K H d v) : Envs K H (σ.set i (some v)) (ρ.set i (some d)) := by
  refine ⟨by rw [List.length_set, List.length_set]; exact E.len, fun j d' h => ?_⟩
  by_cases hj : i = j
  · subst hj
    by_cases hl : i < ρ.length
    · rw [List.getElem?_set_self hl] at h
      cases h
      exact ⟨v, by rw [List.getElem?_set_self (by rw [E.len]; exact hl)], r⟩
    · rw [List.getElem?_eq_none (by rw [List.length_set]; omega)] at h
      cases h
  · rw [List.getElem?_set_ne hj] at h
    rw [List.getElem?_set_ne hj]
    exact E.at' j d' h
/-- slots forgotten -/
def fgt (js : List Nat) (ρ : Ev) : Ev := js.foldl (fun r j => r.set j none) ρ
theorem Envs.fgt1 {K : PySem.W.Frag} {H : Hp} {σ : L2.St} {ρ : Ev} (j : Nat) (E : Envs K H σ ρ) : Envs K H σ (ρ.set j none) := by
  refine ⟨by rw [List.length_set]; exact E.len, fun i d h => ?_⟩
  by_cases hj : j = i
  · subst hj
    by_cases hl : j < ρ.length
    · rw [List.getElem?_set_self hl] at h
      cases h
    · rw [List.getElem?_eq_none (by rw [List.length_set]; omega)] at h
      cases h
  · rw [List.getElem?_set_ne hj] at h
    exact E.at' i d h
theorem Envs.fgt {K : PySem.W.Frag} {H : Hp} {σ : L2.St} : ∀ (js : List Nat) {ρ : Ev}, Envs K H σ ρ → Envs K H σ (fgt js ρ)
  | [], _, E => E
  | j :: js, _, E => Envs.fgt js (E.fgt1 j)

/-! ### outcomes -/
inductive Rs (α : Type) where
  | ok (a : α)
  | exc (c : Nat)
inductive Fl where
  | nx (ρ : Ev)
  | rt (d : Dv)
  | exc (c : Nat)
/-- an exception's object on its way: of the class cls, new in the sense of N, with its traceback or without one -/
def Fly (N : Addr → Prop) (H : Hp) (e : Addr) (cls : Value) (h : Heap) : Prop := H e = none ∧ N e ∧ ∃ oe vs a0, h.get? e = some oe ∧ oe.cls = cls ∧ oe.data = .fields vs ∧ vs[0]? = some a0 ∧
  (vs[1]? = some .none ∨ ∃ T oT ts, vs[1]? = some (.ref T) ∧ T ≠ e ∧ H T = none ∧ N T ∧ h.get? T = some oT ∧ oT.data = .fields ts ∧ ts[3]? = some .none)
def newX (X : Cx) (a : Addr) : Prop := X.s₀.heap.get? a = none ∧ ∀ p ∈ X.pn, p.1 ≠ a
/-- what is known of an exception of the kind c at a state -/
def ExcAt (X : Cx) (H : Hp) (c : Nat) (e : Value) (s : Shared) : Prop := ∃ a C, e = .ref a ∧ PySem.W.nsIn X.K mainGlobals (xnm c) = some (some (.ref C)) ∧ Fly (newX X) H a (.ref C) s.heap
/-- an exception of the kind c reaches what the context wants of one -/
def XW (X : Cx) (c : Nat) (H : Hp) : Prop := ∀ pins σ H' s e, Same H H' → Inv X pins σ H' s → ExcAt X H' c e s → X.xe e s
theorem XW.mono {X : Cx} {c : Nat} {H H' : Hp} (h : XW X c H) (e : Same H H') : XW X c H' := fun pins σ H1 s x e1 I q => h pins σ H1 s x (e.trans e1) I q
def Out (X : Cx) (H : Hp) (o : Option (Rs Dv)) (Q : VK) : Prop := match o with
  | none => False
  | some (.exc c) => XW X c H
  | some (.ok d) => ∀ v H', Same H H' → Rep X.K H' d v → Q v H'
def OutB (X : Cx) (H : Hp) (o : Option (Rs Bool)) (Q : Bool → Hp → Prop) : Prop := match o with
  | none => False
  | some (.exc c) => XW X c H
  | some (.ok d) => ∀ H', Same H H' → Q d H'
def OutA (X : Cx) (H : Hp) (o : Option (Rs (List Dv))) (Q : List V → Hp → Prop) : Prop := match o with
  | none => False
  | some (.exc c) => XW X c H
  | some (.ok ds) => ∀ vs H', Same H H' → Reps X.K H' ds vs → Q vs H'
def OutS (X : Cx) (H : Hp) (o : Option Fl) (D : Ends) : Prop := match o with
  | none => False
  | some (.exc c) => XW X c H
  | some (.rt d) => ∀ v H', Same H H' → Rep X.K H' d v → D.rt v H'
  | some (.nx ρ) => ∀ σ H', Same H H' → Envs X.K H' σ ρ → D.nx σ H'
def bnd {α β : Type} (o : Option (Rs α)) (k : α → Option (Rs β)) : Option (Rs β) := match o with
  | none => none
  | some (.exc c) => some (.exc c)
  | some (.ok a) => k a
def bndS {α : Type} (o : Option (Rs α)) (k : α → Option Fl) : Option Fl := match o with
  | none => none
  | some (.exc c) => some (.exc c)
  | some (.ok a) => k a
def sq (o : Option Fl) (k : Ev → Option Fl) : Option Fl := match o with
  | some (.nx ρ) => k ρ
  | o => o
section
variable {X : Cx} {H H' : Hp} {Q : VK} {QB : Bool → Hp → Prop} {QA : List V → Hp → Prop} {D : Ends}
theorem Out.mono (e : Same H H') : ∀ {o : Option (Rs Dv)}, Out X H o Q → Out X H' o Q
  | none, h => h
  | some (.exc _), h => XW.mono h e
  | some (.ok _), h => fun v H1 e1 r => h v H1 (e.trans e1) r
theorem OutB.mono (e : Same H H') : ∀ {o : Option (Rs Bool)}, OutB X H o QB → OutB X H' o QB
  | none, h => h
  | some (.exc _), h => XW.mono h e
  | some (.ok _), h => fun H1 e1 => h H1 (e.trans e1)
theorem OutA.mono (e : Same H H') : ∀ {o : Option (Rs (List Dv))}, OutA X H o QA → OutA X H' o QA
  | none, h => h
  | some (.exc _), h => XW.mono h e
  | some (.ok _), h => fun v H1 e1 r => h v H1 (e.trans e1) r
theorem OutS.mono (e : Same H H') : ∀ {o : Option Fl}, OutS X H o D → OutS X H' o D
  | none, h => h
  | some (.exc _), h => XW.mono h e
  | some (.rt _), h => fun v H1 e1 r => h v H1 (e.trans e1) r
  | some (.nx _), h => fun v H1 e1 r => h v H1 (e.trans e1) r
/-- a value first, then a value | a test | arguments | a flow -/
theorem Out.bind {o : Option (Rs Dv)} {k : Dv → Option (Rs Dv)} {P : VK} (h : Out X H (bnd o k) Q) (hp : ∀ d v H', Same H H' → Rep X.K H' d v → Out X H' (k d) Q → P v H') : Out X H o P := by
  match o, h with
  | some (.exc _), h => exact h
  | some (.ok d), h => exact fun v H1 e r => hp d v H1 e r (Out.mono e h)
theorem Out.bindB {o : Option (Rs Dv)} {k : Dv → Option (Rs Bool)} {P : VK} (h : OutB X H (bnd o k) QB) (hp : ∀ d v H', Same H H' → Rep X.K H' d v → OutB X H' (k d) QB → P v H') : Out X H o P := by
  match o, h with
  | some (.exc _), h => exact h
  | some (.ok d), h => exact fun v H1 e r => hp d v H1 e r (OutB.mono e h)
theorem Out.bindA {o : Option (Rs Dv)} {k : Dv → Option (Rs (List Dv))} {P : VK} (h : OutA X H (bnd o k) QA) (hp : ∀ d v H', Same H H' → Rep X.K H' d v → OutA X H' (k d) QA → P v H') : Out X H o P := by
  match o, h with
  | some (.exc _), h => exact h
  | some (.ok d), h => exact fun v H1 e r => hp d v H1 e r (OutA.mono e h)
theorem Out.bindS {o : Option (Rs Dv)} {k : Dv → Option Fl} {P : VK} (h : OutS X H (bndS o k) D) (hp : ∀ d v H', Same H H' → Rep X.K H' d v → OutS X H' (k d) D → P v H') : Out X H o P := by
  match o, h with
  | some (.exc _), h => exact h
  | some (.ok d), h => exact fun v H1 e r => hp d v H1 e r (OutS.mono e h)
theorem OutB.bind {o : Option (Rs Bool)} {k : Bool → Option (Rs Dv)} {P : Bool → Hp → Prop} (h : Out X H (bnd o k) Q) (hp : ∀ b H', Same H H' → Out X H' (k b) Q → P b H') : OutB X H o P := by
  match o, h with
  | some (.exc _), h => exact h
  | some (.ok d), h => exact fun H1 e => hp d H1 e (Out.mono e h)
theorem OutB.bindB {o : Option (Rs Bool)} {k : Bool → Option (Rs Bool)} {P : Bool → Hp → Prop} (h : OutB X H (bnd o k) QB) (hp : ∀ b H', Same H H' → OutB X H' (k b) QB → P b H') : OutB X H o P := by
  match o, h with
  | some (.exc _), h => exact h
  | some (.ok d), h => exact fun H1 e => hp d H1 e (OutB.mono e h)
theorem OutB.bindS {o : Option (Rs Bool)} {k : Bool → Option Fl} {P : Bool → Hp → Prop} (h : OutS X H (bndS o k) D) (hp : ∀ b H', Same H H' → OutS X H' (k b) D → P b H') : OutB X H o P := by
  match o, h with
  | some (.exc _), h => exact h
  | some (.ok d), h => exact fun H1 e => hp d H1 e (OutS.mono e h)
theorem OutA.bind {o : Option (Rs (List Dv))} {k : List Dv → Option (Rs Dv)} {P : List V → Hp → Prop} (h : Out X H (bnd o k) Q) (hp : ∀ ds vs H', Same H H' → Reps X.K H' ds vs → Out X H' (k ds) Q → P vs H') : OutA X H o P := by
  match o, h with
  | some (.exc _), h => exact h
  | some (.ok d), h => exact fun v H1 e r => hp d v H1 e r (Out.mono e h)
theorem OutA.bindA {o : Option (Rs (List Dv))} {k : List Dv → Option (Rs (List Dv))} {P : List V → Hp → Prop} (h : OutA X H (bnd o k) QA) (hp : ∀ ds vs H', Same H H' → Reps X.K H' ds vs → OutA X H' (k ds) QA → P vs H') : OutA X H o P := by
  match o, h with
  | some (.exc _), h => exact h
  | some (.ok d), h => exact fun v H1 e r => hp d v H1 e r (OutA.mono e h)
end

/-! ### the judgements -/
abbrev FnE := Ev → Option (Rs Dv)
abbrev FnB := Ev → Option (Rs Bool)
abbrev FnA := Ev → Option (Rs (List Dv))
abbrev FnS := Ev → Option Fl
def tF (X : Cx) (f : FnE) : TE := fun σ H Q => ∃ ρ, Envs X.K H σ ρ ∧ Out X H (f ρ) Q
def tT (X : Cx) (f : FnB) : TT := fun σ H Q => ∃ ρ, Envs X.K H σ ρ ∧ OutB X H (f ρ) Q
def tA (X : Cx) (f : FnA) : TA := fun σ H Q => ∃ ρ, Envs X.K H σ ρ ∧ OutA X H (f ρ) Q
def tS (X : Cx) (f : FnS) : TS := fun D σ H => ∃ ρ, Envs X.K H σ ρ ∧ OutS X H (f ρ) D
structure FE (X : Cx) (e : Expr) (f : FnE) : Prop where
  h : PE X e (tF X f)
structure FT (X : Cx) (e : Expr) (f : FnB) : Prop where
  h : PT X e (tT X f)
structure FW (X : Cx) (e : Expr) (f : FnB) : Prop where
  h : PW X e (tT X f)
structure FA (X : Cx) (es : List Expr) (f : FnA) : Prop where
  h : PA X es (tA X f)
structure FS (X : Cx) (st : Stmt) (f : FnS) : Prop where
  h : PS X st (tS X f)
structure FSs (X : Cx) (st : List Stmt) (f : FnS) : Prop where
  h : PSs X st (tS X f)

section
variable {X : Cx} {a b c e : Expr} {es : List Expr} {fa fb fc : FnE} {pos : Pos}
/-- any rule of the layer, by a weaker wish -/
theorem fe_of {t : TE} {f : FnE} (h : PE X e t) (w : ∀ σ H Q ρ, Envs X.K H σ ρ → Out X H (f ρ) Q → t σ H Q) : FE X e f :=
  ⟨fun pins s σ H Q I ⟨ρ, E, o⟩ => h pins s σ H Q I (w σ H Q ρ E o)⟩
theorem ft_of {t : TT} {f : FnB} (h : PT X e t) (w : ∀ σ H Q ρ, Envs X.K H σ ρ → OutB X H (f ρ) Q → t σ H Q) : FT X e f :=
  ⟨fun pins s σ H Q I ⟨ρ, E, o⟩ => h pins s σ H Q I (w σ H Q ρ E o)⟩
theorem fw_of {t : TT} {f : FnB} (h : PW X e t) (w : ∀ σ H Q ρ, Envs X.K H σ ρ → OutB X H (f ρ) Q → t σ H Q) : FW X e f :=
  ⟨fun wh pins s σ H Q I ⟨ρ, E, o⟩ => h wh pins s σ H Q I (w σ H Q ρ E o)⟩
theorem fs_of {st : Stmt} {t : TS} {f : FnS} (h : PS X st t) (w : ∀ D σ H ρ, Envs X.K H σ ρ → OutS X H (f ρ) D → t D σ H) : FS X st f :=
  ⟨fun pins s σ H D I ⟨ρ, E, o⟩ => h pins s σ H D I (w D σ H ρ E o)⟩
theorem fss_of {st : List Stmt} {t : TS} {f : FnS} (h : PSs X st t) (w : ∀ D σ H ρ, Envs X.K H σ ρ → OutS X H (f ρ) D → t D σ H) : FSs X st f :=
  ⟨fun pins s σ H D I ⟨ρ, E, o⟩ => h pins s σ H D I (w D σ H ρ E o)⟩
theorem FW.ft {f : FnB} (h : FW X e f) : FT X e f := ⟨h.h _⟩

/-! ### names, constants -/
def fVar (i : Nat) : FnE := fun ρ => match ρ[i]? with
  | some (some d) => some (.ok d)
  | _ => none
def fC (d : Dv) : FnE := fun _ => some (.ok d)
theorem fe_pv (i : Nat) (h : PE X e (tVar i)) : FE X e (fVar i) := fe_of h fun σ H Q ρ E o => by
  unfold fVar at o
  split at o
  · rename_i d hd
    obtain ⟨v, h1, h2⟩ := E.at' i d hd
    exact ⟨v, h1, o v H (.refl H) h2⟩
  · exact o.elim
theorem glb {x : Str} (h : X.env.kindOf x = some .globalImplicit) : Gl X x := h
theorem fe_lv (i : Nat) {x : Str} (hN : X.N[i]? = some x := by kernel_rfl) (hv : X.env.scope.names.lookup x = some .local := by kernel_rfl) (hd : (x == ("__debug__" : Str)) = false := by kernel_rfl) (hcd : (x == ("__classdict__" : Str)) = false := by kernel_rfl) : FE X (.Name x pos) (fVar i) := fe_pv i (pe_var hN (.inl hv) hd hcd)
theorem fe_cv (i : Nat) {x : Str} (hN : X.N[i]? = some x := by kernel_rfl) (hv : X.env.scope.names.lookup x = some .cell := by kernel_rfl) (hd : (x == ("__debug__" : Str)) = false := by kernel_rfl) (hcd : (x == ("__classdict__" : Str)) = false := by kernel_rfl) : FE X (.Name x pos) (fVar i) := fe_pv i (pe_var hN (.inr (.inl hv)) hd hcd)
theorem fe_c {d : Dv} {v : V} (h : PE X e (tC v)) (r : ∀ K H, Rep K H d v) : FE X e (fC d) := fe_of h fun _ H _ _ _ o => o v H (.refl H) (r X.K H)
theorem fe_int {i j} : FE X (.Constant (.int i) j pos) (fC (.int i)) := fe_c pe_int fun _ _ => rfl
theorem fe_bl {b j} : FE X (.Constant (.bool b) j pos) (fC (.bl b)) := fe_c pe_bl fun _ _ => rfl
theorem fe_non {j} : FE X (.Constant .none j pos) (fC .non) := fe_c pe_non fun _ _ => rfl
theorem fe_str {x j} : FE X (.Constant (.str x) j pos) (fC (.str x)) := fe_c pe_str fun _ _ => rfl
theorem fe_gint {x : Str} {i : Int} {t : Tok} (hg : Gl X x) (hm : X.mg x = some (.int i t)) (hd : (x == ("__debug__" : Str)) = false := by kernel_rfl) : FE X (.Name x pos) (fC (.int i)) := fe_c (pe_glob (v := .int i) hg hm ⟨t, rfl⟩ hd) fun _ _ => rfl
theorem fe_gstr {x : Str} {i : Str} {t : Tok} (hg : Gl X x) (hm : X.mg x = some (.str i t)) (hd : (x == ("__debug__" : Str)) = false := by kernel_rfl) : FE X (.Name x pos) (fC (.str i)) := fe_c (pe_glob (v := .str i) hg hm ⟨t, rfl⟩ hd) fun _ _ => rfl

/-! ### operations -/
def f2 (g : Dv → Dv → Option (Rs Dv)) (fa fb : FnE) : FnE := fun ρ => bnd (fa ρ) fun x => bnd (fb ρ) fun y => g x y
/-- what an operation's own rule gives -/
def GOp (X : Cx) (r : R2) (g : Dv → Dv → Option (Rs Dv)) : Prop := ∀ dx dy x y H Q, Rep X.K H dx x → Rep X.K H dy y → Out X H (g dx dy) Q → r x y H Q
theorem two {r : R2} {g : Dv → Dv → Option (Rs Dv)} (hg : GOp X r g) {σ : L2.St} {H : Hp} {Q : VK} {ρ : Ev} (E : Envs X.K H σ ρ) (o : Out X H (f2 g fa fb ρ) Q) : tOp r (tF X fa) (tF X fb) σ H Q :=
  ⟨ρ, E, Out.bind o fun dx x H1 e1 rx o1 => ⟨ρ, E.mono e1, Out.bind o1 fun dy y H2 e2 ry o2 => hg dx dy x y H2 Q (Rep.mono e2 dx x rx) ry o2⟩⟩
theorem fe_op {op : Operator} {r : R2} {g : Dv → Dv → Option (Rs Dv)} (ho : OpR X (binaryOp op) r) (hg : GOp X r g) (ha : FE X a fa) (hb : FE X b fb) : FE X (.BinOp a op b pos) (f2 g fa fb) :=
  fe_of (pe_op ho ha.h hb.h) fun _ _ _ _ E o => two hg E o
theorem fe_cmp {op : CmpOp} {r : R2} {g : Dv → Dv → Option (Rs Dv)} (ho : OpR X (compareOp op) r) (hg : GOp X r g) (ha : FE X a fa) (hb : FE X b fb) (hm : behindInMarks op b = false) : FE X (.Compare a [op] [b] pos) (f2 g fa fb) :=
  fe_of (pe_cmpR ho ha.h hb.h hm) fun _ _ _ _ E o => two hg E o
/-- a value that is a bool, as a test -/
def toB : Dv → Option (Rs Bool)
  | .bl b => some (.ok b)
  | _ => none
def fB (f : FnE) : FnB := fun ρ => bnd (f ρ) toB
theorem outB_toB {H : Hp} {d : Dv} {v : V} {QB : Bool → Hp → Prop} (r : Rep X.K H d v) (o : OutB X H (toB d) QB) : ∃ k, v = .bl k ∧ QB k H := by
  cases d with
  | bl b => exact ⟨b, r, o H (.refl H)⟩
  | _ => exact o.elim
theorem ft_cmp {op : CmpOp} {r : R2} {g : Dv → Dv → Option (Rs Dv)} (ho : OpR X (compareOp op) r) (hg : GOp X r g) (ha : FE X a fa) (hb : FE X b fb) (hm : behindInMarks op b = false) : FT X (.Compare a [op] [b] pos) (fB (f2 g fa fb)) :=
  ft_of (pt_cmpR ho ha.h hb.h hm) fun σ H Q ρ E o => by
    show tOp r (tF X fa) (tF X fb) σ H _
    refine two hg E ?_
    exact Out.bindB o fun d v H' e r o' => outB_toB r o'
theorem ft_val (ha : FE X a fa) (he : ∀ whole, isTrue a X.env whole = (do let v ← whole; standAt a.pos; holding [v] (truthy v)) := by intro _; kernel_rfl) : FT X a (fB fa) :=
  ft_of (pt_val ha.h he) fun σ H Q ρ E o => ⟨ρ, E, Out.bindB o fun d v H' e r o' => outB_toB r o'⟩
/-- a chain a op b op' c -/
def fChain (g g' : Dv → Dv → Option (Rs Dv)) (fa fb fc : FnE) : FnE := fun ρ => bnd (fa ρ) fun x => bnd (fb ρ) fun y => bnd (g x y) fun z => bnd (toB z) fun k => if k then bnd (fc ρ) fun w => g' y w else some (.ok (.bl false))

/-! ### and, or, not -/
def bAnd (f g : FnB) : FnB := fun ρ => bnd (f ρ) fun k => if k then g ρ else some (.ok false)
def bOr (f g : FnB) : FnB := fun ρ => bnd (f ρ) fun k => if k then some (.ok true) else g ρ
def bNot (f : FnB) : FnB := fun ρ => bnd (f ρ) fun k => some (.ok (!k))
variable {ga gb : FnB} {rest : List Expr}
theorem fw_and1 (ha : FT X a ga) : FW X (.BoolOp .And [a] pos) ga := ⟨pw_and1 ha.h⟩
theorem fw_or1 (ha : FT X a ga) : FW X (.BoolOp .Or [a] pos) ga := ⟨pw_or1 ha.h⟩
theorem fw_and (ha : FT X a ga) (hb : FW X (.BoolOp .And (b :: rest) pos) gb) : FW X (.BoolOp .And (a :: b :: rest) pos) (bAnd ga gb) :=
  fw_of (pw_and ha.h hb.h) fun σ H Q ρ E o => ⟨ρ, E, OutB.bindB o fun k H1 e o' => by
    cases k with
    | true => exact iteT ⟨ρ, E.mono e, o'⟩
    | false => exact iteF (o' H1 (.refl H1))⟩
theorem fw_or (ha : FT X a ga) (hb : FW X (.BoolOp .Or (b :: rest) pos) gb) : FW X (.BoolOp .Or (a :: b :: rest) pos) (bOr ga gb) :=
  fw_of (pw_or ha.h hb.h) fun σ H Q ρ E o => ⟨ρ, E, OutB.bindB o fun k H1 e o' => by
    cases k with
    | true => exact iteT (o' H1 (.refl H1))
    | false => exact iteF ⟨ρ, E.mono e, o'⟩⟩
theorem ft_not (ha : FT X a ga) : FT X (.UnaryOp .Not a pos) (bNot ga) :=
  ft_of (pt_not ha.h) fun σ H Q ρ E o => ⟨ρ, E, OutB.bindB o fun k H1 e o' => o' H1 (.refl H1)⟩
def vAnd (f g : FnE) : FnE := fun ρ => bnd (f ρ) fun x => bnd (toB x) fun k => if k then g ρ else some (.ok (.bl false))
def vOr (f g : FnE) : FnE := fun ρ => bnd (f ρ) fun x => bnd (toB x) fun k => if k then some (.ok (.bl true)) else g ρ
def vNot (f : FnE) : FnE := fun ρ => bnd (f ρ) fun x => bnd (toB x) fun k => some (.ok (.bl (!k)))
theorem out_toB {H : Hp} {d : Dv} {v : V} {k : Bool → Option (Rs Dv)} {Q : VK} (r : Rep X.K H d v) (o : Out X H (bnd (toB d) k) Q) : ∃ b, v = .bl b ∧ Out X H (k b) Q := by
  cases d with
  | bl b => exact ⟨b, r, o⟩
  | _ => exact o.elim
theorem fe_one {op} (ha : FE X a fa) : FE X (.BoolOp op [a] pos) fa := ⟨pe_one ha.h⟩
theorem fe_and (ha : FE X a fa) (hb : FE X (.BoolOp .And (b :: rest) pos) fb) : FE X (.BoolOp .And (a :: b :: rest) pos) (vAnd fa fb) :=
  fe_of (pe_and ha.h hb.h) fun σ H Q ρ E o => ⟨ρ, E, Out.bind o fun d v H1 e r o' => by
    obtain ⟨k, rfl, o2⟩ := out_toB r o'
    refine ⟨k, rfl, ?_⟩
    cases k with
    | true => exact iteT ⟨ρ, E.mono e, o2⟩
    | false => exact iteF (o2 (.bl false) H1 (.refl H1) rfl)⟩
theorem fe_or (ha : FE X a fa) (hb : FE X (.BoolOp .Or (b :: rest) pos) fb) : FE X (.BoolOp .Or (a :: b :: rest) pos) (vOr fa fb) :=
  fe_of (pe_or ha.h hb.h) fun σ H Q ρ E o => ⟨ρ, E, Out.bind o fun d v H1 e r o' => by
    obtain ⟨k, rfl, o2⟩ := out_toB r o'
    refine ⟨k, rfl, ?_⟩
    cases k with
    | true => exact iteT (o2 (.bl true) H1 (.refl H1) rfl)
    | false => exact iteF ⟨ρ, E.mono e, o2⟩⟩
theorem fe_not (ha : FE X a fa) : FE X (.UnaryOp .Not a pos) (vNot fa) :=
  fe_of (pe_not ha.h) fun σ H Q ρ E o => ⟨ρ, E, Out.bind o fun d v H1 e r o' => by
    obtain ⟨k, rfl, o2⟩ := out_toB r o'
    exact ⟨k, rfl, o2 (.bl (!k)) H1 (.refl H1) rfl⟩⟩
def fIf (c : FnB) (f g : FnE) : FnE := fun ρ => bnd (c ρ) fun k => if k then f ρ else g ρ
theorem fe_if (hc : FT X c ga) (ha : FE X a fa) (hb : FE X b fb) : FE X (.IfExp c a b pos) (fIf ga fa fb) :=
  fe_of (pe_ifExp hc.h ha.h hb.h) fun σ H Q ρ E o => ⟨ρ, E, OutB.bind o fun k H1 e o' => by
    cases k with
    | true => exact iteT ⟨ρ, E.mono e, o'⟩
    | false => exact iteF ⟨ρ, E.mono e, o'⟩⟩

/-! ### arguments, displays -/
def aNil : FnA := fun _ => some (.ok [])
def aCons (f : FnE) (g : FnA) : FnA := fun ρ => bnd (f ρ) fun x => bnd (g ρ) fun xs => some (.ok (x :: xs))
theorem fa_of {t : TA} {f : FnA} (h : PA X es t) (w : ∀ σ H Q ρ, Envs X.K H σ ρ → OutA X H (f ρ) Q → t σ H Q) : FA X es f :=
  ⟨fun pos pins s σ H Q I ⟨ρ, E, o⟩ => h pos pins s σ H Q I (w σ H Q ρ E o)⟩
theorem fa_nil : FA X [] aNil := fa_of pa_nil fun _ H _ _ _ o => o [] H (.refl H) rfl
theorem fa_cons {g : FnA} (ha : FE X e fa) (hr : FA X es g) (hs : starEach (e :: es) X.env = (false, eval e X.env) :: starEach es X.env := by kernel_rfl) : FA X (e :: es) (aCons fa g) :=
  fa_of (pa_cons ha.h hr.h hs) fun σ H Q ρ E o => ⟨ρ, E, Out.bindA o fun d v H1 e r o1 => ⟨ρ, E.mono e, OutA.bindA o1 fun ds vs H2 e2 rs o2 => o2 (v :: vs) H2 (.refl H2) ⟨v, vs, rfl, Rep.mono e2 d v r, rs⟩⟩⟩
def fLst (g : FnA) : FnE := fun ρ => bnd (g ρ) fun ds => if ds.length ≤ 100000 then some (.ok (.lst ds)) else none
def fTup (g : FnA) : FnE := fun ρ => bnd (g ρ) fun ds => if ds.length ≤ 100000 then some (.ok (.tup ds)) else none
theorem le_line {n : Nat} (h : n ≤ 100000) : n ≤ sizeLine := Nat.le_trans h (by rw [sizeLine_eq]; decide)
theorem fe_lst {g : FnA} (h : FA X es g) : FE X (.List es pos) (fLst g) :=
  fe_of (pe_lst h.h) fun σ H Q ρ E o => ⟨ρ, E, OutA.bind o fun ds vs H1 e rs o1 => by
    split at o1
    · rename_i hl
      refine ⟨by rw [rs.length]; exact le_line hl, fun p hp => o1 (.ref p) _ (same_new hp _) ⟨p, vs, rfl, upd_same, Reps.mono (same_new hp _) _ _ rs⟩⟩
    · exact o1.elim⟩
theorem fe_tup {g : FnA} {k} (h : FA X es g) : FE X (.Tuple es k pos) (fTup g) :=
  fe_of (pe_tup h.h) fun σ H Q ρ E o => ⟨ρ, E, OutA.bind o fun ds vs H1 e rs o1 => by
    split at o1
    · rename_i hl
      refine ⟨by rw [rs.length]; exact le_line hl, fun p hp => o1 (.ref p) _ (same_new hp _) ⟨p, vs, rfl, upd_same, Reps.mono (same_new hp _) _ _ rs⟩⟩
    · exact o1.elim⟩

/-! ### statements -/
variable {st : Stmt} {sts : List Stmt} {f g : FnS}
theorem fss_nil : FSs X [] (fun ρ => some (.nx ρ)) := fss_of pss_nil fun D σ H ρ E o => o σ H (.refl H) E
def fSeq (f g : FnS) : FnS := fun ρ => sq (f ρ) g
theorem fss_cons (h1 : FS X st f) (h2 : FSs X sts g) : FSs X (st :: sts) (fSeq f g) :=
  fss_of (pss_cons h1.h h2.h) fun D σ H ρ E o => ⟨ρ, E, by
    unfold fSeq at o
    match hf : f ρ with
    | none => rw [hf] at o; exact o.elim
    | some (.exc c) => rw [hf] at o; exact o
    | some (.rt d) => rw [hf] at o; exact o
    | some (.nx ρ') => rw [hf] at o; exact fun σ' H' e E' => ⟨ρ', E', OutS.mono e o⟩⟩
theorem fss_one (h1 : FS X st f) : FSs X [st] f := ⟨pss_one h1.h⟩
def fRet (f : FnE) : FnS := fun ρ => bndS (f ρ) fun d => some (.rt d)
theorem fs_ret (he : FE X e fa) : FS X (.Return (some e) pos) (fRet fa) :=
  fs_of (ps_ret he.h) fun D σ H ρ E o => ⟨ρ, E, Out.bindS o fun d v H1 e r o1 => o1 v H1 (.refl H1) r⟩
def fRetN : FnS := fun _ => some (.rt .non)
theorem fs_retN : FS X (.Return none pos) fRetN := fs_of ps_retN fun D σ H ρ E o => o .non H (.refl H) rfl
def fDrop (f : FnE) : FnS := fun ρ => bndS (f ρ) fun _ => some (.nx ρ)
theorem fs_expr (he : FE X e fa) (hs : swapsWith e none pos.line X.env = pure false := by kernel_rfl) : FS X (.Expr e pos) (fDrop fa) :=
  fs_of (ps_expr he.h hs) fun D σ H ρ E o => ⟨ρ, E, Out.bindS o fun d v H1 e r o1 => o1 σ H1 (.refl H1) (E.mono e)⟩
def fSet (i : Nat) (f : FnE) : FnS := fun ρ => bndS (f ρ) fun d => some (.nx (ρ.set i (some d)))
theorem fs_set (i : Nat) {x : Str} {pos' : Pos} (hN : X.N.Nodup) (hi : X.N[i]? = some x) (hx : Loc X.env.scope x) (he : FE X e fa) (hs : swapsWith e (some (.Name x pos')) pos.line X.env = pure false := by kernel_rfl) (hf : X.fn x = true ∨ X.env.scope.names.lookup x = some .local := by first | exact .inl rfl | exact .inr rfl | assumption) :
    FS X (.Assign [.Name x pos'] e pos) (fSet i fa) :=
  fs_of (ps_set hN hi hx he.h hs hf) fun D σ H ρ E o => ⟨ρ, E, Out.bindS o fun d v H1 e r o1 => o1 _ H1 (.refl H1) ((E.mono e).set r)⟩
def fIfS (c : FnB) (f g : FnS) : FnS := fun ρ => bndS (c ρ) fun k => if k then f ρ else g ρ
theorem fs_if {as bs : List Stmt} (hc : FT X c ga) (ha : FSs X as f) (hb : FSs X bs g) : FS X (.If c as bs pos) (fIfS ga f g) :=
  fs_of (ps_if hc.h ha.h hb.h) fun D σ H ρ E o => ⟨ρ, E, OutB.bindS o fun k H1 e o1 => by
    cases k with
    | true => exact iteT ⟨ρ, E.mono e, o1⟩
    | false => exact iteF ⟨ρ, E.mono e, o1⟩⟩
def fNever : FnS := fun _ => none
theorem fs_never : FS X st fNever := fs_of ps_never fun _ _ _ _ _ o => o
theorem fss_never : FSs X sts fNever := fss_of pss_never fun _ _ _ _ _ o => o
end
end FD
namespace FD
open PySem PySem.Spec PyProof.Rows L2

/-! ### what is walked -/
def Its (z : Str) : It := ⟨fun i _ => i < z.cps.size, fun i H x H' => H' = H ∧ ∃ c, z.cps[i]? = some c ∧ x = .str ⟨#[c]⟩, fun i _ => i = z.cps.size⟩
theorem walks_str {prog : Program} {w : World} {A : Around} (hh : A.handled = none) (I : Addr) (x : Str) (t : Tok) {ty : String} (hty : ty = "str_ascii_iterator" ∨ ty = "str_iterator") :
    Walks prog w A I [I] [I] x.cps.size (SignAt x) (fun i h => h.IsStrIter I ty x t i) := by
  rcases hty with rfl | rfl
  · exact Walks.strAscii hh I x t
  · exact Walks.strWide hh I x t
theorem turn_str {P : Program} {w : World} {K : PySem.W.Frag} {tg : Expr} (z : Str) (t : Tok) (it : Addr) {ty : String} (hty : ty = "str_ascii_iterator" ∨ ty = "str_iterator") : Turn P w K tg (Its z) [it] it (fun i h => h.IsStrIter it ty z t i) where
  mem := by simp
  obj := fun i h st b hb => by
    have e : b = it := by simpa using hb
    subst e
    obtain ⟨o, e, c, d⟩ := st
    exact ⟨o, e, fun v z => by rw [d] at z; cases z⟩
  keep := fun i h h' st k => let ⟨o, ho, r⟩ := st; ⟨o, k it (by simp) o ho, r⟩
  item := by
    intro X hP hw hK hc i pins s σ H E I hf st hg
    subst hP hw hK
    obtain ⟨f0, f1, f2, f3, f4, f5⟩ := hf it (by simp)
    have W := walks_str (prog := X.prog) (w := X.w) (I.ok.hd hc) it z t hty
    refine W.item i s _ _ hg st fun v h' tk hv st' kk => ?_
    obtain ⟨c, u, hc', rfl⟩ := hv
    have I1 : Inv X pins σ H { s with heap := h', toks := tk } := I.turned (fun b o hb e => kk b o (by simpa using hb) e) f0 f1 f3 f4 f5
    obtain ⟨o, e, c', d⟩ := id st'
    refine ⟨_, rfl, go_of (s := { s with heap := h', toks := tk }) e c' d (by rcases hty with rfl | rfl <;> decide) ⟨.str ⟨#[c]⟩, H, I1, ⟨u, rfl⟩, ⟨rfl, c, hc', rfl⟩, st', fun b hb => (hf b hb).1⟩⟩
  done := by
    intro X hP hw hK hc i pins s σ H E I hf st hg
    subst hP hw hK
    obtain ⟨f0, f1, f2, f3, f4, f5⟩ := hf it (by simp)
    have W := walks_str (prog := X.prog) (w := X.w) (I.ok.hd hc) it z t hty
    have hg' : i = z.cps.size := hg
    subst hg'
    exact W.done s _ _ st fun h' tk kk => ⟨rfl, I.turned (fun b o hb e => kk b o (by simpa using hb) e) f0 f1 f3 f4 f5⟩
  self := fun A i s Q E st h => by
    rcases hty with rfl | rfl
    · exact wpAny_pyIter_striter_ascii st h
    · exact wpAny_pyIter_striter_wide st h

/-- the items come in their order, whatever is laid meanwhile -/
structure Wk (K : PySem.W.Frag) (J : It) (ds : List Dv) (H0 : Hp) : Prop where
  go : ∀ i H, Same H0 H → i < ds.length → J.go i H
  stop : ∀ H, Same H0 H → J.stop ds.length H
  yld : ∀ i H x H', Same H0 H → i < ds.length → J.yld i H x H' → H' = H ∧ ∃ d, ds[i]? = some d ∧ Rep K H d x
def OutI (X : Cx) (H : Hp) (o : Option (Rs (List Dv))) (R : It → Hp → Prop) : Prop := match o with
  | none => False
  | some (.exc c) => XW X c H
  | some (.ok ds) => ∀ J H', Same H H' → Wk X.K J ds H' → R J H'
structure FI (X : Cx) (tg iter : Expr) (f : FnA) : Prop where
  h : PI X tg iter fun σ H R => ∃ ρ, Envs X.K H σ ρ ∧ OutI X H (f ρ) R
theorem OutI.mono {X : Cx} {H H' : Hp} {R : It → Hp → Prop} (e : Same H H') : ∀ {o : Option (Rs (List Dv))}, OutI X H o R → OutI X H' o R
  | none, h => h
  | some (.exc _), h => XW.mono h e
  | some (.ok _), h => fun v H1 e1 r => h v H1 (e.trans e1) r
def signs (z : Str) : List Dv := z.cps.toList.map fun c => .str ⟨#[c]⟩
def items : Dv → Option (Rs (List Dv))
  | .lst ds => some (.ok ds)
  | .tup ds => some (.ok ds)
  | .str z => some (.ok (signs z))
  | _ => none
def iSeq (f : FnE) : FnA := fun ρ => bnd (f ρ) items
theorem wk_list {K : PySem.W.Frag} {H : Hp} {a : Addr} {xs : List V} {ds : List Dv} (h : H a = some (.lst xs)) (r : Reps K H ds xs) : Wk K (Itl K a) ds H where
  go := fun i H' e hi => by
    have hx : i < xs.length := by rw [r.length]; exact hi
    exact ⟨xs, xs[i], SqL.of (e _ _ h), by simp [hx]⟩
  stop := fun H' e => ⟨xs, SqL.of (e _ _ h), by rw [r.length]; exact Nat.le_refl _⟩
  yld := fun i H' x H2 e hi y => by
    obtain ⟨e2, y⟩ := y
    obtain ⟨d, h1, h2⟩ := Reps.get (Reps.mono e _ _ r) (y xs (SqL.of (e _ _ h)))
    exact ⟨e2, d, h1, h2⟩
theorem wk_tup {K : PySem.W.Frag} {H : Hp} {a : Addr} {xs : List V} {ds : List Dv} (h : H a = some (.tup xs)) (r : Reps K H ds xs) : Wk K (Itt K a) ds H where
  go := fun i H' e hi => by
    have hx : i < xs.length := by rw [r.length]; exact hi
    exact ⟨xs, xs[i], SqT.of (e _ _ h), by simp [hx]⟩
  stop := fun H' e => ⟨xs, SqT.of (e _ _ h), by rw [r.length]; exact Nat.le_refl _⟩
  yld := fun i H' x H2 e hi y => by
    obtain ⟨e2, y⟩ := y
    obtain ⟨d, h1, h2⟩ := Reps.get (Reps.mono e _ _ r) (y xs (SqT.of (e _ _ h)))
    exact ⟨e2, d, h1, h2⟩
theorem wk_str {K : PySem.W.Frag} {H : Hp} {z : Str} : Wk K (Its z) (signs z) H where
  go := fun i H' e hi => by show i < z.cps.size; simpa [signs] using hi
  stop := fun H' e => by show (signs z).length = z.cps.size; simp [signs]
  yld := fun i H' x H2 e hi y => by
    obtain ⟨e2, c, hc, rfl⟩ := y
    refine ⟨e2, .str ⟨#[c]⟩, ?_, rfl⟩
    have hc' : z.cps.toList[i]? = some c := by simpa using hc
    rw [signs, List.getElem?_map, hc'] <;> rfl
def rng (lo : Int) : Nat → List Dv
  | 0 => []
  | n + 1 => .int lo :: rng (lo + 1) n
theorem rng_length : ∀ (n : Nat) (lo : Int), (rng lo n).length = n
  | 0, _ => rfl
  | n + 1, lo => by show (rng (lo + 1) n).length + 1 = n + 1; rw [rng_length]
theorem rng_get : ∀ (n : Nat) (lo : Int) (i : Nat), i < n → (rng lo n)[i]? = some (.int (lo + i))
  | 0, _, _, h => by omega
  | n + 1, lo, 0, _ => by simp [rng]
  | n + 1, lo, i + 1, h => by
    have q := rng_get n (lo + 1) i (by omega)
    show (Dv.int lo :: rng (lo + 1) n)[i + 1]? = _
    rw [List.getElem?_cons_succ, q]
    congr 2
    omega
theorem wk_range {K : PySem.W.Frag} {H : Hp} {lo : Int} {n : Nat} : Wk K (Itr lo n) (rng lo n) H where
  go := fun i H' e hi => by rw [rng_length] at hi; exact hi
  stop := fun H' e => by show n ≤ (rng lo n).length; rw [rng_length]; exact Nat.le_refl _
  yld := fun i H' x H2 e hi y => by
    obtain ⟨e2, rfl⟩ := y
    rw [rng_length] at hi
    exact ⟨e2, _, rng_get n lo i hi, rfl⟩
section
variable {X : Cx} {tg l a b : Expr} {fl : FnE} {pos p : Pos}
theorem fi_seq (hl : FE X l fl) : FI X tg l (iSeq fl) := by
  constructor
  intro pins s σ H R I h
  obtain ⟨ρ, E, o⟩ := h
  have key : Out X H (fl ρ) fun x H1 => ∃ d, Rep X.K H1 d x ∧ OutI X H1 (items d) R := by
    unfold iSeq at o
    match hf : fl ρ, o with
    | some (.exc c), o => exact o
    | some (.ok d), o => exact fun v H1 e r => ⟨d, r, OutI.mono e o⟩
    | none, o => exact o
  refine thn (hl.h pins s σ H _ I ⟨ρ, E, key⟩) fun v s1 ⟨x, H1, I1, r1, d, rd, q⟩ => ?_
  have fin : ∀ (o : Obj) (tn : Nat → Heap → Prop) (J : It) (ds : List Dv), Turn X.prog X.w X.K tg J [s1.heap.objs.size] s1.heap.objs.size tn → tn 0 (s1.heap.push o) → Wk X.K J ds H1 → (∀ J H', Same H1 H' → Wk X.K J ds H' → R J H') →
      PIE X pins σ tg R (.ref s1.heap.objs.size) { s1 with heap := s1.heap.push o } := fun o tn J ds T t0 w q => by
    refine ⟨s1.heap.objs.size, [s1.heap.objs.size], tn, J, H1, rfl, I1.kept (t' := s1.toks) fun b o e => Heap.get?_push_of_some _ e, T, t0, fun b hb => ?_, q J H1 (.refl H1) w⟩
    have e : b = s1.heap.objs.size := by simpa using hb
    subst e
    exact I1.fpOk (Nat.le_refl _) (I1.hok.fresh (Nat.le_refl _))
  cases d with
  | lst ds =>
    obtain ⟨a, xs, rfl, h1, h2⟩ := rd.lstE
    cases r1
    obtain ⟨its, rv, p, hz⟩ := I1.list (SqL.of h1)
    exact wpAny_pyIter_list p.isList (fin _ _ (Itl X.K a) ds (turn_list a _) ⟨_, Heap.get?_push_size _ rfl, rfl, rfl⟩ (wk_list h1 h2) q)
  | tup ds =>
    obtain ⟨a, xs, rfl, h1, h2⟩ := rd.tupE
    cases r1
    obtain ⟨its, rv, p, hz⟩ := I1.tuple (SqT.of h1)
    exact wpAny_pyIter_tuple (show s1.heap.IsTuple a its.toArray from p) (fin _ _ (Itt X.K a) ds (turn_tuple a _) ⟨_, Heap.get?_push_size _ rfl, rfl, rfl⟩ (wk_tup h1 h2) q)
  | str z =>
    cases (show x = .str z from rd)
    obtain ⟨t, rfl⟩ := r1
    have hty : strIterType z = "str_ascii_iterator" ∨ strIterType z = "str_iterator" := by
      unfold strIterType
      split
      · exact .inl rfl
      · exact .inr rfl
    exact wpAny_pyIter_strU (fin _ _ (Its z) (signs z) (turn_str z t _ hty) ⟨_, Heap.get?_push_size _ rfl, rfl, rfl⟩ wk_str q)
  | _ => exact q.elim
/-- range(a), range(a, b) -/
def rng1 : List Dv → Option (Rs (List Dv))
  | [.int j] => if -(2 ^ 62) ≤ j ∧ j < 2 ^ 62 then some (.ok (rng 0 j.toNat)) else none
  | _ => none
def rng2 : List Dv → Option (Rs (List Dv))
  | [.int i, .int j] => if -(2 ^ 62) ≤ i ∧ i < 2 ^ 62 ∧ -(2 ^ 62) ≤ j ∧ j < 2 ^ 62 then some (.ok (rng i (j - i).toNat)) else none
  | _ => none
theorem outA_bindI {H : Hp} {R : It → Hp → Prop} {o : Option (Rs (List Dv))} {k : List Dv → Option (Rs (List Dv))} {P : List V → Hp → Prop} (h : OutI X H (bnd o k) R) (hp : ∀ ds vs H', Same H H' → Reps X.K H' ds vs → OutI X H' (k ds) R → P vs H') : OutA X H o P := by
  match o, h with
  | some (.exc _), h => exact h
  | some (.ok d), h => exact fun v H1 e r => hp d v H1 e r (OutI.mono e h)
theorem fi_range1 {ga : FnA} (hg : Gl X "range") (hm : X.mg "range" = none) (ha : FA X [a] ga) (hs : starEach [a] X.env = [(false, eval a X.env)] := by kernel_rfl) : FI X tg (.Call (.Name "range" p) [a] [] pos) (fun ρ => bnd (ga ρ) rng1) := by
  constructor
  intro pins s σ H R I h
  obtain ⟨ρ, E, o⟩ := h
  refine pi_range1 hg hm ha.h hs pins s σ H R I ⟨ρ, E, outA_bindI o fun ds vs H' e rs o1 => ?_⟩
  unfold rng1 at o1
  split at o1
  · rename_i j
    split at o1
    · rename_i hj
      obtain ⟨v, us, rfl, r, t⟩ : ∃ v us, vs = v :: us ∧ Rep X.K H' (.int j) v ∧ Reps X.K H' [] us := rs
      cases (show us = [] from t)
      cases (show v = .int j from r)
      exact ⟨j, rfl, hj.1, hj.2, o1 _ H' (.refl H') wk_range⟩
    · exact o1.elim
  · exact o1.elim
theorem fi_range2 {ga : FnA} (hg : Gl X "range") (hm : X.mg "range" = none) (ha : FA X [a, b] ga) (hs : starEach [a, b] X.env = [(false, eval a X.env), (false, eval b X.env)] := by kernel_rfl) (hs2 : starEach [b] X.env = [(false, eval b X.env)] := by kernel_rfl) :
    FI X tg (.Call (.Name "range" p) [a, b] [] pos) (fun ρ => bnd (ga ρ) rng2) := by
  constructor
  intro pins s σ H R I h
  obtain ⟨ρ, E, o⟩ := h
  refine pi_range2 hg hm ha.h hs hs2 pins s σ H R I ⟨ρ, E, outA_bindI o fun ds vs H' e rs o1 => ?_⟩
  unfold rng2 at o1
  split at o1
  · rename_i i j
    split at o1
    · rename_i hj
      obtain ⟨v, us, rfl, r, t⟩ : ∃ v us, vs = v :: us ∧ Rep X.K H' (.int i) v ∧ Reps X.K H' [.int j] us := rs
      obtain ⟨v2, us2, rfl, r2, t2⟩ : ∃ v us', us = v :: us' ∧ Rep X.K H' (.int j) v ∧ Reps X.K H' [] us' := t
      cases (show us2 = [] from t2)
      cases (show v = .int i from r)
      cases (show v2 = .int j from r2)
      exact ⟨i, j, rfl, hj, o1 _ H' (.refl H') wk_range⟩
    · exact o1.elim
  · exact o1.elim
end

/-! ### for -/
def loopF (i : Nat) (js : List Nat) (body : FnS) : List Dv → Ev → Option Fl
  | [], ρ => some (.nx (fgt js ρ))
  | d :: ds, ρ => match body ((fgt js ρ).set i (some d)) with
    | some (.nx ρ') => loopF i js body ds ρ'
    | o => o
def fFor (i : Nat) (js : List Nat) (src : FnA) (body : FnS) : FnS := fun ρ => bndS (src ρ) fun ds => loopF i js body ds ρ
theorem drop_cons {α : Type} {ds : List α} {i : Nat} {d : α} (h : ds[i]? = some d) : ds.drop i = d :: ds.drop (i + 1) := by
  obtain ⟨hi, e⟩ := List.getElem?_eq_some_iff.mp h
  rw [List.drop_eq_getElem_cons hi, e]
theorem fs_for {X : Cx} {tg iter : Expr} {body : List Stmt} {pos : Pos} {src : FnA} {fb : FnS} (i : Nat) (js : List Nat) (hp : PassesOwn (model X.prog X.w) X.A X.env X.xe) (hc : X.calm = true) (hi : FI X tg iter src) (hg : PG X tg (gName i)) (hb : FSs X body fb)
    (hs : ∀ x, foldedSetIterable iter X.env x = pure x := by intro _; kernel_rfl) : FS X (.For tg iter body [] pos) (fFor i js src fb) := by
  refine fs_of (ps_for hp hc hi.h hg hb.h hs) fun D σ H ρ E o => ⟨ρ, E, ?_⟩
  unfold fFor at o
  match hf : src ρ, o with
  | none, o => exact o
  | some (.exc c), o => exact o
  | some (.ok ds), o =>
    intro J H1 e1 wk
    have o1 : OutS X H1 (loopF i js fb ds ρ) D := OutS.mono e1 o
    refine ⟨fun n m σ' H' => m = ds.length - n ∧ n ≤ ds.length ∧ Same H1 H' ∧ ∃ ρ', Envs X.K H' σ' ρ' ∧ OutS X H' (loopF i js fb (ds.drop n) ρ') D, ⟨ds.length, by simp, Nat.zero_le _, .refl H1, ρ, E.mono e1, by simpa using o1⟩, ?_⟩
    rintro n m σ' H' ⟨rfl, hn, e2, ρ', E', o'⟩
    by_cases hlt : n < ds.length
    · refine .inr ⟨wk.go n H' e2 hlt, fun σ2 H2 => Same H1 H2 ∧ ∃ ρ2, Envs X.K H2 σ2 ρ2 ∧ OutS X H2 (loopF i js fb (ds.drop (n + 1)) ρ2) D, fun σ2 H2 ⟨e3, ρ2, E2, o2⟩ => ⟨ds.length - (n + 1), by omega, rfl, hlt, e3, ρ2, E2, o2⟩, fun x H2 y => ?_⟩
      obtain ⟨rfl, d, hd, rd⟩ := wk.yld n H' x H2 e2 hlt y
      rw [drop_cons hd] at o'
      show tS X fb _ _ _
      refine ⟨(fgt js ρ').set i (some d), (Envs.fgt js E').set rd, ?_⟩
      unfold loopF at o'
      match hb' : fb ((fgt js ρ').set i (some d)) with
      | none => rw [hb'] at o'; exact o'
      | some (.exc c) => rw [hb'] at o'; exact o'
      | some (.rt r) => rw [hb'] at o'; exact o'
      | some (.nx ρ2) => rw [hb'] at o'; exact fun σ2 H3 e3 E3 => ⟨e2.trans e3, ρ2, E3, OutS.mono e3 o'⟩
    · have hn' : n = ds.length := by omega
      subst hn'
      rw [List.drop_length] at o'
      exact .inl ⟨wk.stop H' e2, o' σ' H' (.refl H') (Envs.fgt js E')⟩

/-! ### calls of the text's defs (no exception leaves them) -/
def spF (K : PySem.W.Frag) (F : List Dv → Option (Rs Dv)) (n : Nat) : Sp := fun vs H Q _ => ∃ ds, Reps K H ds vs ∧ ds.length = n ∧ match F ds with
  | some (.ok d) => ∀ v H', Same H H' → Rep K H' d v → Q v H'
  | _ => False
def fCall (F : List Dv → Option (Rs Dv)) (n : Nat) (g : FnA) : FnE := fun ρ => bnd (g ρ) fun ds => if ds.length = n then (match F ds with | some (.ok d) => some (.ok d) | _ => none) else none
section
variable {X : Cx} {k n : Nat} {f : Addr} {fd : FuncData} {ps : List Str} {x : Str} {p pos : Pos} {e : Expr} {es : List Expr} {F : List Dv → Option (Rs Dv)} {g : FnA}
theorem fe_call (G : FnOk X.prog X.w X.K X.mg X.base CX0 k f fd ps (spF X.K F n)) (hr : Room k X.A) (hg : Gl X x) (hm : X.mg x = some (.ref f)) (hk : PySem.W.keepIn X.K (.ref f) = true) (hb : Binds X.K fd ps [])
    (ha : FA X (e :: es) g) (hdb : (x == ("__debug__" : Str)) = false := by kernel_rfl) (he : starEach (e :: es) X.env = (false, eval e X.env) :: starEach es X.env := by kernel_rfl) (hpl : (backTo pos (starEach es X.env)).any (·.1) = false := by kernel_rfl) :
    FE X (.Call (.Name x p) (e :: es) [] pos) (fCall F n g) :=
  fe_of (pe_call G hr hg hm hk hb .nil pass0 ha.h hdb he hpl) fun σ H Q ρ E o => ⟨ρ, E, OutA.bind o fun ds vs H' e rs o1 => by
    show spF X.K F n (vs ++ []) H' Q E0
    rw [List.append_nil]
    split at o1
    · rename_i hl
      refine ⟨ds, rs, hl, ?_⟩
      match hF : F ds with
      | some (.ok d) => rw [hF] at o1; exact o1
      | some (.exc c) => rw [hF] at o1; exact o1
      | none => rw [hF] at o1; exact o1
    · exact o1.elim⟩
/-- the def at the name x is worth F, k calls deep -/
def Has (P : Program) (w : World) (K : PySem.W.Frag) (mg : Str → Option Value) (base : Heap) (x : Str) (k : Nat) (ps : List Str) (F : List Dv → Option (Rs Dv)) : Prop :=
  ∃ f fd, FnOk P w K mg base CX0 k f fd ps (spF K F ps.length) ∧ mg x = some (.ref f) ∧ PySem.W.keepIn K (.ref f) = true ∧ Binds K fd ps []
theorem fe_callH {k' : Nat} (k : Nat) (ps : List Str) (F : List Dv → Option (Rs Dv)) (h : Has X.prog X.w X.K X.mg X.base x k ps F) (hr : Room k' X.A) (hk : k ≤ k') (hg : Gl X x) (ha : FA X (e :: es) g) (hn : n = ps.length := by kernel_rfl) (hdb : (x == ("__debug__" : Str)) = false := by kernel_rfl)
    (he : starEach (e :: es) X.env = (false, eval e X.env) :: starEach es X.env := by kernel_rfl) (hpl : (backTo pos (starEach es X.env)).any (·.1) = false := by kernel_rfl) :
    FE X (.Call (.Name x p) (e :: es) [] pos) (fCall F n g) := by
  subst hn
  obtain ⟨f, fd, G, hm, hkp, hb⟩ := h
  exact fe_call (G.mono hk) hr hg hm hkp hb ha hdb he hpl
/-- a def's value, by its body -/
def runF (m : Nat) (fb : FnS) : List Dv → Option (Rs Dv) := fun ds => match fb (ds.map some ++ List.replicate (m - ds.length) none) with
  | some (.nx _) => some (.ok .non)
  | some (.rt d) => some (.ok d)
  | _ => none
theorem envs_start {K : PySem.W.Frag} {H : Hp} {N : List Str} {ds : List Dv} {vs : List V} (r : Reps K H ds vs) : Envs K H (L2.start N vs) (ds.map some ++ List.replicate (N.length - ds.length) none) := by
  have hl := r.length
  refine ⟨by unfold L2.start; rw [List.length_append, List.length_append, List.length_map, List.length_map, List.length_replicate, List.length_replicate, hl], fun i d h => ?_⟩
  by_cases hi : i < ds.length
  · rw [List.getElem?_append_left (by simpa using hi), List.getElem?_map] at h
    cases hd : ds[i]? with
    | none => rw [hd] at h; cases h
    | some d' =>
      rw [hd] at h
      have h' : some (some d') = some (some d) := h
      injection h' with h'
      injection h' with h'
      subst h'
      obtain ⟨v, h1, h2⟩ := r.get' hd
      refine ⟨v, ?_, h2⟩
      unfold L2.start
      rw [List.getElem?_append_left (by rw [List.length_map, hl]; exact hi), List.getElem?_map, h1] <;> rfl
  · rw [List.getElem?_append_right (by simpa using hi), List.getElem?_replicate] at h
    split at h <;> cases h
theorem fn_ok {P : Program} {w : World} {K : PySem.W.Frag} {mg : Str → Option Value} {base : Heap} {qual : Str} {st : Stmt} {N : List Str} {fb : FnS} (Fn : Fun K x qual st f fd) (S : FnScope N ps (defScope st))
    (hb : ∀ (cdv : Value) (A : Around) (outer : List Env) (s : Shared) (H : Hp) (E : XK), Room k (A.deeper (envOfC qual (defScope st) s.heap.objs.size f cdv)) → FSs (cxOf CX0 P w K mg base N qual (defScope st) f cdv A outer s H E).nox (defBody st) fb) :
    FnOk P w K mg base CX0 (k + 1) f fd ps (spF K (runF N.length fb) ps.length) := by
  refine Fn.ok S (fun vs H Q E h => ?_) (fun cdv A outer s H vs Q E hr h => ?_)
  · obtain ⟨ds, r, hl, _⟩ := h
    rw [r.length, hl]
  · obtain ⟨ds, r, hl, q⟩ := h
    refine ⟨_, (hb cdv A outer s H E hr).h, ds.map some ++ List.replicate (N.length - ds.length) none, envs_start r, ?_⟩
    unfold runF at q
    match hf : fb (ds.map some ++ List.replicate (N.length - ds.length) none) with
    | none => rw [hf] at q; exact q.elim
    | some (.exc c) => rw [hf] at q; exact q.elim
    | some (.rt d) => rw [hf] at q; exact fun v H' e r' => q v H' e r'
    | some (.nx ρ) => rw [hf] at q; exact fun σ' H' e _ => q .non H' e rfl
end
theorem fn_ok2 {k : Nat} {f : Addr} {fd : FuncData} {x : Str} {P : Program} {w : World} {K : PySem.W.Frag} {mg : Str → Option Value} {base : Heap} {qual : Str} {st : Stmt} {F : List Dv → Option (Rs Dv)} {n : Nat} (N ps : List Str) (fb : FnS) (hF : F = runF N.length fb) (hn : n = ps.length)
    (Fn : Fun K x qual st f fd) (S : FnScope N ps (defScope st))
    (hb : ∀ (cdv : Value) (A : Around) (outer : List Env) (s : Shared) (H : Hp) (E : XK), Room k (A.deeper (envOfC qual (defScope st) s.heap.objs.size f cdv)) → FSs (cxOf CX0 P w K mg base N qual (defScope st) f cdv A outer s H E).nox (defBody st) fb) :
    FnOk P w K mg base CX0 (k + 1) f fd ps (spF K F n) := by
  subst hF hn
  exact fn_ok Fn S hb
end FD
namespace FD
open PySem PySem.Spec PyProof.Rows L2

/-! ### a list comprehension's block -/
def clOf (names : List (Str × NameKind)) (env : Env) (acc : List (Str × Addr)) : List (Str × Addr) := match names with
  | [] => acc
  | (n, k) :: r => clOf r env (if k == .free then (n, (env.cells.lookup n).getD 0) :: acc else acc)
theorem clOf_sound {env : Env} {n : Str} {c : Addr} : ∀ (names : List (Str × NameKind)) (acc : List (Str × Addr)), (clOf names env acc).lookup n = some c → acc.lookup n = some c ∨ ((n, NameKind.free) ∈ names ∧ c = (env.cells.lookup n).getD 0)
  | [], acc, h => .inl h
  | (m, k) :: r, acc, h => by
    rcases clOf_sound r _ h with q | ⟨q1, q2⟩
    · by_cases hk : k = .free
      · subst hk
        simp only [beq_self_eq_true, if_true] at q
        rw [List.lookup_cons] at q
        cases hm : n == m with
        | true =>
          rw [hm] at q
          have e : n = m := by simpa using hm
          subst e
          exact .inr ⟨List.mem_cons_self, (Option.some.inj q).symm⟩
        | false => rw [hm] at q; exact .inl q
      · have hb : (k == NameKind.free) = false := by simpa using hk
        rw [hb] at q
        exact .inl (by simpa using q)
    · exact .inr ⟨List.mem_cons_of_mem _ q1, q2⟩
theorem clOf_keep {env : Env} {n : Str} : ∀ (names : List (Str × NameKind)) (acc : List (Str × Addr)), (acc.lookup n).isSome = true → ((clOf names env acc).lookup n).isSome = true
  | [], acc, h => h
  | (m, k) :: r, acc, h => by
    refine clOf_keep r _ ?_
    split
    · rw [List.lookup_cons]
      cases n == m with
      | true => rfl
      | false => exact h
    · exact h
theorem clOf_has {env : Env} {n : Str} : ∀ (names : List (Str × NameKind)) (acc : List (Str × Addr)), (n, NameKind.free) ∈ names → ((clOf names env acc).lookup n).isSome = true
  | [], acc, h => by cases h
  | (m, k) :: r, acc, h => by
    rcases List.mem_cons.mp h with e | q
    · injection e with e1 e2
      subst e1
      subst e2
      refine clOf_keep r _ ?_
      simp only [beq_self_eq_true, if_true, List.lookup_cons]
      rfl
    · exact clOf_has r _ q
theorem lookup_mem {β : Type} {n : Str} {k : β} : ∀ {l : List (Str × β)}, l.lookup n = some k → (n, k) ∈ l
  | [], h => by simp at h
  | (m, j) :: r, h => by
    rw [List.lookup_cons] at h
    cases hm : n == m with
    | true =>
      rw [hm] at h
      have e : n = m := by simpa using hm
      subst e
      have e2 : j = k := Option.some.inj h
      subst e2
      exact List.mem_cons_self
    | false => rw [hm] at h; exact List.mem_cons_of_mem _ (lookup_mem h)
/-- the block's context -/
def compCx (X : Cx) (N : List Str) (scope : Scope) (C : Addr) (s : Shared) (H : Hp) (fp : List Addr) : Cx :=
  { X with N := N, s₀ := s, H₀ := H, env := compEnvC scope (clOf scope.names X.env []) C X.env, outer := X.stack, stack := X.stack, ex := fp, fn := fun _ => false, pn := [], xe := fun _ _ => False }

/-- what must be so of the block's scope, by looking at it -/
structure CompOk (osc scope : Scope) (x : Str) (cs : List (Str × Nat)) (N : List Str) : Prop where
  kind : scope.kind = .function
  okind : osc.kind = .function
  cell : ∀ y ∈ scope.names, y.2 ≠ .cell
  names : ∀ y ∈ scope.names, y.2 = .local → scope.names.lookup y.1 = some .local
  tgt : scope.names.lookup x = some .local
  nd : (x :: cs.map (·.1)).Nodup
  free : ∀ y ∈ scope.names, y.2 = .free → osc.names.lookup y.1 = some .cell ∨ osc.names.lookup y.1 = some .free
  caps : ∀ c ∈ cs, N[c.2]? = some c.1 ∧ scope.names.lookup c.1 = some .free
theorem relabel_kind {scope : Scope} {env : Env} {n : Str} {k : NameKind} (h : (relabel scope env).names.lookup n = some k) : (n, k) ∈ scope.names ∨ (k = .cell ∧ (n, NameKind.free) ∈ scope.names) := by
  have q := lookup_mem h
  unfold relabel at q
  obtain ⟨⟨m, j⟩, hm, e⟩ := List.mem_map.mp q
  dsimp only at e
  split at e
  · rename_i hc
    injection e with e1 e2
    subst e1
    have hj : j = .free := by
      rw [Bool.and_eq_true, Bool.and_eq_true] at hc
      simpa using hc.1.1
    subst hj
    exact .inr ⟨e2.symm, hm⟩
  · injection e with e1 e2
    subst e1
    subst e2
    exact .inl hm
theorem relabel_free {env : Env} : ∀ {names : List (Str × NameKind)} {n : Str}, names.lookup n = some .free →
    (names.map fun (n, k) => if (k == NameKind.free && env.scope.kind == .function && env.kindOf n == some .cell) then (n, NameKind.cell) else (n, k)).lookup n = some .cell ∨
    (names.map fun (n, k) => if (k == NameKind.free && env.scope.kind == .function && env.kindOf n == some .cell) then (n, NameKind.cell) else (n, k)).lookup n = some .free
  | [], _, h => by simp at h
  | (m, k) :: r, n, h => by
    have ih := @relabel_free env r n
    rw [List.lookup_cons] at h
    rw [List.map_cons]
    cases hm : n == m with
    | true =>
      rw [hm] at h
      have e2 : k = .free := Option.some.inj h
      subst e2
      by_cases hc : (NameKind.free == NameKind.free && env.scope.kind == .function && env.kindOf m == some .cell) = true
      · dsimp only
        rw [if_pos hc, List.lookup_cons, hm]
        exact .inl rfl
      · dsimp only
        rw [if_neg hc, List.lookup_cons, hm]
        exact .inr rfl
    | false =>
      rw [hm] at h
      dsimp only
      by_cases hc : (k == NameKind.free && env.scope.kind == .function && env.kindOf m == some .cell) = true
      · rw [if_pos hc, List.lookup_cons, hm]; exact ih h
      · rw [if_neg hc, List.lookup_cons, hm]; exact ih h
/-- the captured slots, the block's names at a turn's start -/
def capS (cs : List (Str × Nat)) (σ : L2.St) : L2.St := none :: cs.map fun c => (σ[c.2]?).join
def capE (cs : List (Str × Nat)) (ρ : Ev) : Ev := none :: cs.map fun c => (ρ[c.2]?).join
theorem envs_cap {K : PySem.W.Frag} {H : Hp} {σ : L2.St} {ρ : Ev} (cs : List (Str × Nat)) (E : Envs K H σ ρ) : Envs K H (capS cs σ) (capE cs ρ) := by
  refine ⟨by simp [capS, capE], fun i d h => ?_⟩
  cases i with
  | zero => simp [capE] at h
  | succ i =>
    simp only [capE, List.getElem?_cons_succ, List.getElem?_map] at h
    cases hc : cs[i]? with
    | none => rw [hc] at h; simp at h
    | some c =>
      rw [hc] at h
      simp only [Option.map_some, Option.some.injEq] at h
      have h2 : ρ[c.2]? = some (some d) := by
        cases q : ρ[c.2]? with
        | none => rw [q] at h; simp at h
        | some o => rw [q] at h; simp at h; rw [h]
      obtain ⟨v, h3, h4⟩ := E.at' c.2 d h2
      refine ⟨v, ?_, h4⟩
      simp only [capS, List.getElem?_cons_succ, List.getElem?_map, hc, Option.map_some, h3]
      rfl
section
variable {X : Cx} {pins : List (Addr × Obj)} {σ : L2.St} {H : Hp} {s : Shared}
theorem comp_inv {scope : Scope} {x : Str} {cs : List (Str × Nat)} {fp : List Addr} {h₁ : Heap} {C : Addr} {t' : Nat} (ok : CompOk X.env.scope scope x cs X.N) (I : Inv X pins σ H s) (hfp : ∀ b ∈ fp, FpOk X pins H b) (hlt : ∀ b ∈ fp, b < s.heap.objs.size)
    (hC : s.heap.objs.size ≤ C) (hns : h₁.Ns C fun _ => none) (old : ∀ b o, s.heap.get? b = some o → h₁.get? b = some o) :
    Inv (compCx X (x :: cs.map (·.1)) scope C s H fp) [] (capS cs σ) H { s with heap := h₁, toks := t' } := by
  have cl1 : ∀ n c, (clOf scope.names X.env []).lookup n = some c → X.env.cells.lookup n = some c := fun n c e => by
    rcases clOf_sound _ _ e with q | ⟨q1, q2⟩
    · simp at q
    · obtain ⟨c', e'⟩ := I.ok.has n (ok.free _ q1 rfl)
      rw [e'] at q2
      rw [e', q2] <;> rfl
  have kf : ∀ n k, (relabel scope X.env).names.lookup n = some k → (k = .cell ∨ k = .free) → (n, NameKind.free) ∈ scope.names := fun n k h hk => by
    rcases relabel_kind h with q | ⟨_, q⟩
    · rcases hk with rfl | rfl
      · exact absurd rfl (ok.cell _ q)
      · exact q
    · exact q
  refine ⟨⟨I.ok.mod, ok.kind, I.ok.glob, I.ok.blt, hC, fun y z c e1 e2 => I.ok.inj y z c (cl1 y c e1) (cl1 z c e2), fun y hy => ?_, fun y c h => Bool.noConfusion h, I.ok.hd, I.ok.frames, .inl rfl, fun b hb => ⟨fun z => ?_, fun y c e => (hfp b hb).2.2.2.2.1 y c (cl1 y c e)⟩, I.bs, Nat.le_trans I.ok.bsz I.sz, fun b o e hb => ?_, fun b hb z => ?_, I.stack, I.stkFree⟩,
    rfl, I.bare, Un.kept old, ⟨_, hns, fun i y v h1 h2 h3 => ?_⟩, fun y c e => ?_, I.hok.fresh hC, fun y c e => I.freeC y c (cl1 y c e), fun p hp => absurd (show p ∈ ([] : List (Addr × Obj)) from hp) (by simp), I.hok.kept old, by simp [capS, compCx]⟩
  · have hm : (y, NameKind.free) ∈ scope.names := by
      rcases hy with hy | hy
      · exact kf y _ hy (.inl rfl)
      · exact kf y _ hy (.inr rfl)
    exact Option.isSome_iff_exists.mp (clOf_has _ _ hm)
  · have := hlt b hb
    rw [z] at this
    exact absurd (Nat.lt_of_lt_of_le this hC) (Nat.lt_irrefl _)
  · rcases (hfp b hb).2.2.2.1 with z | z
    · exact I.ok.noex b o e z
    · exact absurd (Nat.lt_of_lt_of_le (Heap.lt_size e) (Nat.le_trans I.ok.bsz z)) (Nat.lt_irrefl _)
  · rcases List.mem_cons.mp (I.stkSub b z) with q | q
    · exact (hfp b hb).2.1 q
    · exact (hfp b hb).2.2.1 q
  · cases i with
    | zero => simp [capS] at h2
    | succ i =>
      have h1' : (cs.map (·.1))[i]? = some y := by simpa [compCx] using h1
      rw [List.getElem?_map] at h1'
      cases hc : cs[i]? with
      | none => rw [hc] at h1'; simp at h1'
      | some c =>
        rw [hc] at h1'
        have ey : c.1 = y := by simpa using h1'
        subst ey
        simp only [capS, List.getElem?_cons_succ, List.getElem?_map, hc, Option.map_some, Option.some.injEq] at h2
        have h2' : σ[c.2]? = some (some v) := by
          cases q : σ[c.2]? with
          | none => rw [q] at h2; simp at h2
          | some o => rw [q] at h2; simp at h2; rw [h2]
        obtain ⟨hN, hf⟩ := ok.caps c (List.mem_of_getElem? hc)
        have hv := ok.free _ (lookup_mem hf) rfl
        obtain ⟨m, _, hl⟩ := I.loc
        obtain ⟨u, r, l⟩ := hl c.2 c.1 v hN h2' (.inr hv)
        refine ⟨u, r, .inr ⟨relabel_free hf, ?_⟩⟩
        rcases l with ⟨l, _⟩ | ⟨_, a, ha, o, ho, hd⟩
        · have l' : X.env.scope.names.lookup c.1 = some .local := l
          rcases hv with z | z
          · rw [l'] at z; cases z
          · rw [l'] at z; cases z
        · obtain ⟨a', ha'⟩ := Option.isSome_iff_exists.mp (clOf_has (env := X.env) scope.names [] (lookup_mem hf))
          have e2 := cl1 _ _ ha'
          rw [ha] at e2
          cases e2
          exact ⟨a, ha', o, old _ _ ho, hd⟩
  · obtain ⟨v, o, ho, hd⟩ := I.cell y c (cl1 y c e)
    exact ⟨v, o, old _ _ ho, hd⟩
end

/-! ### the comprehension as a function -/
def mapF (tst : Option FnB) (elt : FnE) (cap : Ev) : List Dv → Option (List Dv)
  | [] => some []
  | d :: ds =>
    let ρ := cap.set 0 (some d)
    match (match tst with | none => (some (.ok true) : Option (Rs Bool)) | some t => t ρ) with
    | some (.ok true) => (match elt ρ with
      | some (.ok y) => (match mapF tst elt cap ds with | some ys => some (y :: ys) | none => none)
      | _ => none)
    | some (.ok false) => mapF tst elt cap ds
    | _ => none
def fComp (cs : List (Str × Nat)) (src : FnA) (tst : Option FnB) (elt : FnE) : FnE := fun ρ => bnd (src ρ) fun ds => match mapF tst elt (capE cs ρ) ds with
  | some ys => if ys.length ≤ 100000 ∧ ds.length ≤ 100000 then some (.ok (.lst ys)) else none
  | none => none
def LAt (h : Heap) (D : Addr) (its : List Value) : Prop := ∃ n, h.get? D = some { cls := .type "list", data := .seq its.toArray n }
theorem lat_append {P : Program} {w : World} {A : Around} {E : Value → Shared → Prop} {s : Shared} {D : Addr} {its : List Value} {u : Value} {Q : Value → Shared → Prop} (h : LAt s.heap D its) (hz : its.length ≤ 100000)
    (hQ : ∀ h', LAt h' D (its ++ [u]) → (∀ b o, b ≠ D → s.heap.get? b = some o → h'.get? b = some o) → Q .none { s with heap := h' }) : wpAny (model P w) A (call (.builtin "list.append") [.ref D, u]) Q E s := by
  obtain ⟨n, e⟩ := h
  refine call_meets F.slot_list_append ⟨_, e, rfl⟩ F.entry_list_append (F.args_list_append_2 _ _) (PySem.list_append D its.toArray n u (by rw [List.size_toArray]; exact le_line hz)) ⟨e, ?_⟩
  have q := PySem.IsL.update e (·.push u)
  have e2 : its.toArray.push u = (its ++ [u]).toArray := by simp
  rw [e2] at q
  exact hQ _ ⟨_, q⟩ fun b o hb ho => (Heap.get?_update_other s.heap _ (Ne.symm hb)).trans ho
/-- the tests of a clause -/
def FIfs (X : Cx) (ifs : List Expr) (tst : Option FnB) : Prop := match tst with
  | none => ifs = []
  | some t => ∃ c, ifs = [c] ∧ FT X c t
theorem HOk.add {P : Program} {w : World} {H : Hp} {h h' : Heap} {D C : Addr} {o : HO} (x : HOk P w H h) (hD : H D = none) (hC : H C = none) (k : ∀ b u, b ≠ C → h.get? b = some u → h'.get? b = some u) (new : ObjOk P w (upd H D o) h' D o) : HOk P w (upd H D o) h' := fun b u e => by
  by_cases hb : b = D
  · subst hb; rw [upd_same] at e; cases e; exact new
  · rw [upd_ne hb] at e
    refine (x b u e).stay (fun c v hc q => k c v ?_ q) (fun c q => by rw [upd_ne (ne_of_none q hD)]; exact q) fun c xs q => by rw [upd_ne (ne_of_none q hD)]; exact q
    rcases hc with rfl | hc
    · exact ne_of_none e hC
    · exact ne_of_none hc hC
def CompI (X : Cx) (x : Str) (cs : List (Str × Nat)) (scope : Scope) (D : Addr) (s2 : Shared) (H2 : Hp) (fp : List Addr) (tn : Nat → Heap → Prop) (ds ys : List Dv) (tst : Option FnB) (fe : FnE) (ρ : Ev) (m : Nat) (s' : Shared) : Prop :=
  ∃ i σ' H' es vs its, m = ds.length - i ∧ i ≤ ds.length ∧ Inv (compCx X (x :: cs.map (·.1)) scope (D + 1) s2 H2 fp) [] σ' H' s' ∧ Envs X.K H' σ' (capE cs ρ) ∧ tn i s'.heap ∧ (∀ b ∈ fp, H' b = none) ∧ H' D = none ∧ LAt s'.heap D its ∧ Vals vs its ∧ Reps X.K H' es vs ∧ es.length ≤ i ∧ Same H2 H' ∧
      (match mapF tst fe (capE cs ρ) (ds.drop i) with | some zs => es ++ zs = ys | none => False)
theorem ad_ne {b D : Nat} (h : b < D) : b ≠ D := by omega
theorem ad_ne1 {b D : Nat} (h : b < D) : b ≠ D + 1 := by omega
theorem ad_s {D : Nat} : D ≠ D + 1 := by omega
set_option maxHeartbeats 4000000 in
theorem fe_comp0 {X : Cx} {elt iter : Expr} {x : Str} {px : Pos} {ifs : List Expr} {scope : Scope} {pos : Pos} {src : FnA} {tst : Option FnB} {fe : FnE} (cs : List (Str × Nat)) (ok : CompOk X.env.scope scope x cs X.N) (hcl : closureFor scope X.env = pure (clOf scope.names X.env [])) (hc : X.calm = true)
    (hi : FI X (.Name x px) iter src) (helt : ∀ C s H fp, FE (compCx X (x :: cs.map (·.1)) scope C s H fp) elt fe) (hifs : ∀ C s H fp, FIfs (compCx X (x :: cs.map (·.1)) scope C s H fp) ifs tst)
    (hs : ∀ x, foldedSetIterable iter X.env x = pure x := by intro _; kernel_rfl) : FE X (.ListComp elt [⟨.Name x px, iter, ifs, 0⟩] scope pos) (fComp cs src tst fe) := by
  constructor
  intro pins s σ H Q I h
  obtain ⟨ρ, E, o⟩ := h
  rw [eval_ListComp]
  have key : OutI X H (src ρ) fun J H' => ∃ ds ys, Same H H' ∧ Wk X.K J ds H' ∧ ds.length ≤ 100000 ∧ ys.length ≤ 100000 ∧ mapF tst fe (capE cs ρ) ds = some ys ∧ (∀ v H'', Same H' H'' → Rep X.K H'' (.lst ys) v → Q v H'') := by
    unfold fComp at o
    match hf : src ρ, o with
    | none, o => exact o
    | some (.exc c), o => exact o
    | some (.ok ds), o =>
      intro J H' e wk
      have o' : Out X H (match mapF tst fe (capE cs ρ) ds with | some ys => if ys.length ≤ 100000 ∧ ds.length ≤ 100000 then some (.ok (.lst ys)) else none | none => none) Q := o
      match hm : mapF tst fe (capE cs ρ) ds, o' with
      | none, o' => exact o'.elim
      | some ys, o' =>
        dsimp only at o'
        split at o'
        · rename_i hl
          exact ⟨ds, ys, e, wk, hl.2, hl.1, hm, fun v H'' e2 r => o' v H'' (e.trans e2) r⟩
        · exact o'.elim
  refine wpAny_comprehension_free (use := none) rfl hs hcl ok.kind ok.names (thn (hi.h pins s σ H _ I ⟨ρ, E, key⟩) fun v s1 h1 => thn h1 fun itv s2 h2 => ?_)
  obtain ⟨it, fp, tn, J, H2, e, I2, T, st2, f2, ds, ys, e12, wk, hdl, hyl, hm, hQ⟩ := h2
  subst e
  have fplt : ∀ b ∈ fp, b < s2.heap.objs.size := fun b hb => by
    obtain ⟨o, ho, _⟩ := T.obj _ _ st2 b hb
    exact Heap.lt_size ho
  refine wpAny_newObj_type (wpAny_newFunctionEnv ok.cell (by intro y hy; simp at hy) (fun h₁ hns₁ hsb₁ => ?_) ok.kind)
  dsimp only at hns₁ hsb₁ ⊢
  generalize hH2 : s2.heap.push { cls := .type "list", dict := none, data := .seq ([] : List Value).toArray } = P2 at hns₁ hsb₁ ⊢
  obtain ⟨D, hD⟩ : ∃ D, s2.heap.objs.size = D := ⟨_, rfl⟩
  have hC : P2.objs.size = D + 1 := by rw [← hH2, Heap.size_push, hD]
  rw [hC] at hns₁ hsb₁
  rw [hC, hD]
  have old : ∀ b o, s2.heap.get? b = some o → h₁.get? b = some o := fun b o e => by
    have hb : b < D := by rw [← hD]; exact Heap.lt_size e
    exact hsb₁.extBut b o (ad_ne1 hb) (Heap.get?_push_of_some _ (hH2 ▸ Heap.get?_push_of_some _ e))
  have hacc : LAt h₁ D [] := ⟨0, hsb₁.extBut _ _ ad_s (Heap.get?_push_of_some _ (by rw [← hH2, ← hD]; exact Heap.get?_push_size _ rfl))⟩
  have hns : h₁.Ns (D + 1) fun _ => none := by simpa using hns₁
  have I4 : Inv (compCx X (x :: cs.map (·.1)) scope (D + 1) s2 H2 fp) [] (capS cs σ) H2 { s2 with heap := h₁, toks := s2.toks + ([] : List (Str × Value)).length } := comp_inv ok I2 f2 fplt (by rw [hD]; exact Nat.le_succ D) hns old
  have E4 : Envs X.K H2 (capS cs σ) (capE cs ρ) := envs_cap cs (E.mono e12)
  have HD : H2 D = none := I2.hok.fresh (Nat.le_of_eq hD)
  have fpD : ∀ b ∈ fp, b ≠ D := fun b hb => ad_ne (hD ▸ fplt b hb)
  -- the loop
  have loop : ∀ s4 : Shared, s4 = { s2 with heap := h₁, toks := s2.toks + ([] : List (Str × Value)).length } →
      codeAny (model X.prog X.w) X.A (.compLoop (.ListComp elt [⟨.Name x px, iter, ifs, 0⟩] scope pos) 0 (.ref it) (.ref D) (compEnvC scope (clOf scope.names X.env []) (D + 1) X.env))
        (compPost (model X.prog X.w) X.A X.xe none (EP X pins σ Q) (.ref D) (D + 1)) s4 := by
    rintro s4 rfl
    refine codeAny_compLoop_tests (fun m s' => CompI X x cs scope D s2 H2 fp tn ds ys tst fe ρ m s') ?_ ds.length ⟨0, capS cs σ, H2, [], [], [], by simp, Nat.zero_le _, I4, E4, T.keep _ _ _ st2 fun b hb o e => old b o e, fun b hb => (f2 b hb).1, HD, hacc, .nil, rfl, Nat.le_refl _, .refl H2, by rw [List.drop_zero, hm]; rfl⟩
    rintro m s5 ⟨i, σ5, H5, es, vs, its, rfl, hi5, I5, E5, t5, fr5, D5, l5, v5, r5, hel, e5, hz⟩
    have nC : ∀ b ∈ fp, b ≠ D + 1 := fun b hb => ad_ne1 (hD ▸ fplt b hb)
    have fp5 : ∀ b ∈ fp, FpOk (compCx X (x :: cs.map (·.1)) scope (D + 1) s2 H2 fp) [] H5 b := fun b hb => ⟨fr5 b hb, nC b hb, I4.ok.exfs b hb, .inl hb, (I4.ok.exf b hb).2, fun p hp => absurd (show p ∈ ([] : List (Addr × Obj)) from hp) (by simp)⟩
    have lenV : vs.length = its.length := v5.length
    have lenR : vs.length = es.length := r5.length
    have DL : D ≠ (compCx X (x :: cs.map (·.1)) scope (D + 1) s2 H2 fp).env.locals := ad_s
    have Dcell : ∀ y c, (compCx X (x :: cs.map (·.1)) scope (D + 1) s2 H2 fp).env.cells.lookup y = some c → c ≠ D := fun y c e z => by
      obtain ⟨v, o, ho, hd⟩ := I5.cell y c e
      obtain ⟨n, q⟩ := l5
      subst z
      rw [q] at ho
      cases ho
      cases hd
    have Dfs : D ∉ (compCx X (x :: cs.map (·.1)) scope (D + 1) s2 H2 fp).fs := fun z => by
      rcases List.mem_cons.mp (I2.stkSub D z) with q | q
      · have z2 := I2.lt
        rw [hD] at z2
        exact ad_ne z2 q.symm
      · exact I2.nofs (Nat.le_of_eq hD) q
    have Dp : FpOk (compCx X (x :: cs.map (·.1)) scope (D + 1) s2 H2 fp) [] H5 D := ⟨D5, DL, Dfs, .inr (Nat.le_of_eq hD), Dcell, fun p hp => absurd (show p ∈ ([] : List (Addr × Obj)) from hp) (by simp)⟩
    have Dob : ∀ b ∈ [D], ∃ o, s5.heap.get? b = some o ∧ ∀ v, o.data ≠ .cell v := fun b hb => by
      have e : b = D := by simpa using hb
      subst e
      obtain ⟨n, q⟩ := l5
      exact ⟨_, q, fun v z => by cases z⟩
    by_cases hlt : i < ds.length
    · have I5p := I5.pinned (fp := [D]) (fun b hb => by have e : b = D := by simpa using hb
                                                        subst e; exact Dp) Dob
      rw [List.nil_append] at I5p
      have ner : ∀ b ∈ fp, ∀ p ∈ pinsAt [D] s5.heap, p.1 ≠ b := fun b hb p hp z => by
        have e : p.1 = D := by simpa using (of_pinsAt hp).1
        exact fpD b hb (z.symm.trans e)
      have fp5' : ∀ b ∈ fp, FpOk (compCx X (x :: cs.map (·.1)) scope (D + 1) s2 H2 fp) (pinsAt [D] s5.heap) H5 b := fun b hb => ⟨fr5 b hb, nC b hb, I4.ok.exfs b hb, .inl hb, (I4.ok.exf b hb).2, fun p hp => ner b hb p (by simpa [compCx] using hp)⟩
      refine thn (T.item (compCx X (x :: cs.map (·.1)) scope (D + 1) s2 H2 fp) rfl rfl rfl hc i (pinsAt [D] s5.heap) s5 σ5 H5 _ I5p fp5' t5 (wk.go i H5 e5 hlt)) fun r s6 ⟨u, hr, h6⟩ => ?_
      subst hr
      have goal : wpAny (model X.prog X.w) X.A (letOwnedTupleGo (.Name x px) (.ref it) u >>= fun _ => assign (.Name x px) (compEnvC scope (clOf scope.names X.env []) (D + 1) X.env) u) (fun _ s₂ =>
          wpAny (model X.prog X.w) X.A (forIn ifs true fun c r => if r = true then do let ok ← isTrue c (compEnvC scope (clOf scope.names X.env []) (D + 1) X.env) (eval c (compEnvC scope (clOf scope.names X.env []) (D + 1) X.env)); pure (ForInStep.yield ok) else pure (ForInStep.yield r)) (fun ok s₃ =>
            if ok = true then wpAny (model X.prog X.w) X.A (eval elt (compEnvC scope (clOf scope.names X.env []) (D + 1) X.env)) (fun xw s₄ =>
              wpAny (model X.prog X.w) X.A (call (.builtin "list.append") [.ref D, xw]) (fun _ s₅ => ∃ m, m < ds.length - i ∧ CompI X x cs scope D s2 H2 fp tn ds ys tst fe ρ m s₅) (notedBy (model X.prog X.w) X.A (compEnvC scope (clOf scope.names X.env []) (D + 1) X.env) fun e s' => compPost (model X.prog X.w) X.A X.xe none (EP X pins σ Q) (.ref D) (D + 1) (.error e) s') s₄) (notedBy (model X.prog X.w) X.A (compEnvC scope (clOf scope.names X.env []) (D + 1) X.env) fun e s' => compPost (model X.prog X.w) X.A X.xe none (EP X pins σ Q) (.ref D) (D + 1) (.error e) s') s₃
            else ∃ m, m < ds.length - i ∧ CompI X x cs scope D s2 H2 fp tn ds ys tst fe ρ m s₃) (notedBy (model X.prog X.w) X.A (compEnvC scope (clOf scope.names X.env []) (D + 1) X.env) fun e s' => compPost (model X.prog X.w) X.A X.xe none (EP X pins σ Q) (.ref D) (D + 1) (.error e) s') s₂) (notedBy (model X.prog X.w) X.A (compEnvC scope (clOf scope.names X.env []) (D + 1) X.env) fun e s' => compPost (model X.prog X.w) X.A X.xe none (EP X pins σ Q) (.ref D) (D + 1) (.error e) s') s6 := by
        refine wpAny_bind (thn h6 fun _ s7 ⟨xv, H7, I7, r7, y7, t7, fr7⟩ => ?_)
        obtain ⟨rfl, d, hd, rd⟩ := wk.yld i H5 xv H7 e5 hlt y7
        rw [drop_cons hd] at hz
        have I7p := I7.pinned (fp := fp) (fun b hb => ⟨fr7 b hb, nC b hb, I4.ok.exfs b hb, .inl hb, (I4.ok.exf b hb).2, fun p hp => ner b hb p (by simpa [compCx] using hp)⟩) (T.obj _ _ t7)
        -- what stays until the turn's end
        have fin : ∀ {σ8 : L2.St} {H8 : Hp} {s8 : Shared}, Inv (compCx X (x :: cs.map (·.1)) scope (D + 1) s2 H2 fp) (pinsAt [D] s5.heap ++ pinsAt fp s7.heap) σ8 H8 s8 → tn (i + 1) s8.heap ∧ (∀ b ∈ fp, H8 b = none) ∧ H8 D = none ∧ LAt s8.heap D its := fun {σ8 H8 s8} I8 => by
          refine ⟨T.keep _ _ _ t7 fun b hb o e => (I8.pin (b, o) (List.mem_append_right _ (List.mem_append_right _ (mem_pinsAt hb e)))).1, fun b hb => ?_, ?_, ?_⟩
          · obtain ⟨o, e, _⟩ := T.obj _ _ t7 b hb
            exact (I8.pin (b, o) (List.mem_append_right _ (List.mem_append_right _ (mem_pinsAt hb e)))).2.1
          · obtain ⟨n, q⟩ := l5
            exact (I8.pin (D, _) (List.mem_append_right _ (List.mem_append_left _ (mem_pinsAt (by simp) q)))).2.1
          · obtain ⟨n, q⟩ := l5
            exact ⟨n, (I8.pin (D, _) (List.mem_append_right _ (List.mem_append_left _ (mem_pinsAt (by simp) q)))).1⟩
        refine wpAny_mono (pg_name (X := compCx X (x :: cs.map (·.1)) scope (D + 1) s2 H2 fp) (i := 0) ok.nd rfl (.inl (lookup_relabel_local ok.tgt)) (.inr (lookup_relabel_local ok.tgt)) _ s7 σ5 H7 xv u (fun σ8 H8 => H8 = H7 ∧ Envs X.K H7 σ8 ((capE cs ρ).set 0 (some d))) I7p r7 ⟨rfl, E5.set rd⟩) (fun _ s8 ⟨σ8, H8, I8, q8⟩ => ?_) fun _ _ z => False.elim z
        obtain ⟨rfl, E8⟩ := q8
        have back : ∀ {σ9 : L2.St} {H9 : Hp}, Same H8 H9 → Envs X.K H9 σ9 ((capE cs ρ).set 0 (some d)) → Envs X.K H9 σ9 (capE cs ρ) := fun {σ9 H9} e9 E9 => by
          have q := E9.fgt1 0
          have e : ((capE cs ρ).set 0 (some d)).set 0 none = capE cs ρ := rfl
          rw [e] at q
          exact q
        -- the element, kept
        have took : ∀ {H9 : Hp} {s9 : Shared}, Inv (compCx X (x :: cs.map (·.1)) scope (D + 1) s2 H2 fp) (pinsAt [D] s5.heap ++ pinsAt fp s7.heap) σ8 H9 s9 → Same H8 H9 →
            (match (match fe ((capE cs ρ).set 0 (some d)) with | some (.ok y) => (match mapF tst fe (capE cs ρ) (ds.drop (i + 1)) with | some ys => some (y :: ys) | none => none) | _ => none) with | some zs => es ++ zs = ys | none => False) →
            wpAny (model X.prog X.w) X.A (eval elt (compEnvC scope (clOf scope.names X.env []) (D + 1) X.env)) (fun xw s₄ =>
              wpAny (model X.prog X.w) X.A (call (.builtin "list.append") [.ref D, xw]) (fun _ s₅ => ∃ m, m < ds.length - i ∧ CompI X x cs scope D s2 H2 fp tn ds ys tst fe ρ m s₅) (notedBy (model X.prog X.w) X.A (compEnvC scope (clOf scope.names X.env []) (D + 1) X.env) fun e s' => compPost (model X.prog X.w) X.A X.xe none (EP X pins σ Q) (.ref D) (D + 1) (.error e) s') s₄) (notedBy (model X.prog X.w) X.A (compEnvC scope (clOf scope.names X.env []) (D + 1) X.env) fun e s' => compPost (model X.prog X.w) X.A X.xe none (EP X pins σ Q) (.ref D) (D + 1) (.error e) s') s9 := fun {H9 s9} I9 e9 hz9 => by
          match hfe : fe ((capE cs ρ).set 0 (some d)), hz9 with
          | none, hz9 => exact hz9.elim
          | some (.exc c), hz9 => exact hz9.elim
          | some (.ok y), hz9 =>
            refine wpAny_mono ((helt (D + 1) s2 H2 fp).h _ s9 σ8 H9 (fun v H10 => Same H9 H10 ∧ Rep X.K H10 y v) I9 ⟨(capE cs ρ).set 0 (some d), E8.mono e9, by rw [hfe]; exact fun v H10 e10 r10 => ⟨e10, r10⟩⟩) (fun w s10 ⟨yv, H10, I10, rw10, e10, r10⟩ => ?_) fun _ _ z => False.elim z
            obtain ⟨t10, fr10, D10, l10⟩ := fin I10
            refine lat_append l10 (by omega) fun h11 l11 k11 => ?_
            have I10' : Inv (compCx X (x :: cs.map (·.1)) scope (D + 1) s2 H2 fp) (pinsAt fp s7.heap) σ8 H10 s10 := I10.pins_of fun p hp => I10.pin p (List.mem_append_right _ (List.mem_append_right _ hp))
            have I11 : Inv (compCx X (x :: cs.map (·.1)) scope (D + 1) s2 H2 fp) (pinsAt fp s7.heap) σ8 H10 { s10 with heap := h11 } := I10'.turned (t' := s10.toks) k11 D10 DL (.inr (Nat.le_of_eq hD)) Dcell fun p hp z => by
              have hp' : p ∈ pinsAt fp s7.heap := by simpa [compCx] using hp
              exact fpD p.1 (of_pinsAt hp').1 z
            have e80 := e9.trans e10
            refine ⟨ds.length - (i + 1), by omega, i + 1, σ8, H10, es ++ [y], vs ++ [yv], its ++ [w], rfl, hlt, I11.pins_of fun p hp => absurd hp (by simp), back e80 (E8.mono e80), T.keep _ _ _ t10 fun b hb o e => k11 b o (fpD b hb) e, fr10, D10, l11, v5.append (.cons rw10 .nil), (Reps.mono e80 _ _ r5).append ⟨yv, [], rfl, r10, rfl⟩, by rw [List.length_append, List.length_singleton]; omega, e5.trans e80, ?_⟩
            match hm2 : mapF tst fe (capE cs ρ) (ds.drop (i + 1)), hz9 with
            | none, hz9 => exact hz9.elim
            | some zs, hz9 => dsimp only at hz9 ⊢; rw [List.append_assoc]; exact hz9
        unfold mapF at hz
        have hif := hifs (D + 1) s2 H2 fp
        cases tst with
        | none =>
          cases (show ifs = [] from hif)
          exact wpAny_tests_nil (by rw [if_pos rfl]; exact took I8 (.refl H8) hz)
        | some t =>
          obtain ⟨c, rfl, hct⟩ := hif
          match htt : t ((capE cs ρ).set 0 (some d)), hz with
          | none, hz => simp only [htt] at hz
          | some (.exc c), hz => simp only [htt] at hz
          | some (.ok true), hz =>
            simp only [htt] at hz
            refine wpAny_tests_one (wpAny_mono (hct.h _ s8 σ8 H8 (fun b H9 => b = true ∧ Same H8 H9) I8 ⟨_, E8, by rw [htt]; exact fun H9 e9 => ⟨rfl, e9⟩⟩) (fun b s9 ⟨H9, I9, hb, e9⟩ => ?_) fun _ _ z => False.elim z)
            subst hb
            rw [if_pos rfl]
            exact took I9 e9 hz
          | some (.ok false), hz =>
            simp only [htt] at hz
            refine wpAny_tests_one (wpAny_mono (hct.h _ s8 σ8 H8 (fun b H9 => b = false ∧ Same H8 H9) I8 ⟨_, E8, by rw [htt]; exact fun H9 e9 => ⟨rfl, e9⟩⟩) (fun b s9 ⟨H9, I9, hb, e9⟩ => ?_) fun _ _ z => False.elim z)
            subst hb
            rw [if_neg Bool.false_ne_true]
            obtain ⟨t9, fr9, D9, l9⟩ := fin I9
            exact ⟨ds.length - (i + 1), by omega, i + 1, σ8, H9, es, vs, its, rfl, hlt, I9.pins_of fun p hp => absurd hp (by simp), back e9 (E8.mono e9), t9, fr9, D9, l9, v5, Reps.mono e9 _ _ r5, by omega, e5.trans e9, hz⟩
      exact goal
    · have hi' : i = ds.length := by omega
      subst hi'
      rw [List.drop_length] at hz
      have hz' : es ++ [] = ys := hz
      rw [List.append_nil] at hz'
      subst hz'
      refine thn (T.done (compCx X (x :: cs.map (·.1)) scope (D + 1) s2 H2 fp) rfl rfl rfl hc ds.length (pinsAt [D] s5.heap) s5 σ5 H5 _ (by
          have q := I5.pinned (fp := [D]) (fun b hb => by have e : b = D := by simpa using hb
                                                          subst e; exact Dp) Dob
          rw [List.nil_append] at q
          exact q) (fun b hb => ⟨fr5 b hb, nC b hb, I4.ok.exfs b hb, .inl hb, (I4.ok.exf b hb).2, fun p hp z => by
            have hp' : p ∈ pinsAt [D] s5.heap := by simpa [compCx] using hp
            have e : p.1 = D := by simpa using (of_pinsAt hp').1
            exact fpD b hb (z.symm.trans e)⟩) t5 (wk.stop H5 e5)) fun r s6 ⟨hr, I6⟩ => ?_
      subst hr
      have l6 : LAt s6.heap D its := by
        obtain ⟨n, q⟩ := l5
        exact ⟨n, (I6.pin (D, _) (List.mem_append_right _ (mem_pinsAt (by simp) q))).1⟩
      obtain ⟨m6, n6, _⟩ := I6.loc
      refine ⟨m6, n6, fun h7 sb7 => ?_⟩
      have k7 : ∀ b o, b ≠ D + 1 → s6.heap.get? b = some o → h7.get? b = some o := fun b o hb e => sb7.extBut b o hb e
      have C6 : H5 (D + 1) = none := I6.free
      have new : ObjOk X.prog X.w (upd H5 D (.lst vs)) h7 D (.lst vs) := by
        obtain ⟨n, q⟩ := l6
        exact ⟨by rw [lenR]; exact le_line hyl, its, n, v5, k7 D _ ad_s q⟩
      have u6 : Un (frs X.stack) fp H2 H5 s2.heap s6.heap := I6.base
      have nD : ∀ b o, s2.heap.get? b = some o → b ≠ D ∧ b ≠ D + 1 := fun b o e => by
        have hb : b < D := by rw [← hD]; exact Heap.lt_size e
        exact ⟨ad_ne hb, ad_ne1 hb⟩
      have u7 : Un (frs X.stack) fp H2 (upd H5 D (.lst vs)) s2.heap h7 := ⟨fun b o e n hb hx => k7 b o (nD b o e).2 (u6.keep b o e n hb hx), fun b o e n hb hx => by
          obtain ⟨sl, q⟩ := u6.slot b o e n hb hx
          exact ⟨sl, k7 b _ (nD b o e).2 q⟩, fun b o e n hx => by rw [upd_ne (nD b o e).1]; exact u6.free b o e n hx, fun b o e hx => by
          obtain ⟨o', q⟩ := u6.there b o e hx
          exact ⟨o', k7 b _ (nD b o e).2 q⟩, fun b xs q => by
          have q' := u6.tups b xs q
          rw [upd_ne (ne_of_none q' D5)]; exact q', fun b o u q => by
          have q' := u6.frzs b o u q
          rw [upd_ne (ne_of_none q' D5)]; exact q', fun b ps q => by
          obtain ⟨more, q'⟩ := u6.tbls b ps q
          exact ⟨more, by rw [upd_ne (ne_of_none q' D5)]; exact q'⟩⟩
      have I7 : Inv X pins σ (upd H5 D (.lst vs)) { s6 with heap := h7 } := I2.call' (s' := { s6 with heap := h7 }) (ch := fp) I6.os u7 (HOk.add I6.hok D5 C6 k7 new) I6.bare fun b hb => ⟨(f2 b hb).2.2.2.1, (f2 b hb).2.1, (f2 b hb).2.2.2.2.1, (f2 b hb).2.2.2.2.2⟩
      exact ⟨.ref D, _, I7, rfl, hQ _ _ (e5.trans (same_new D5 _)) ⟨D, vs, rfl, upd_same, Reps.mono (same_new D5 _) _ _ r5⟩⟩
  exact codeAny_compStart_list (loop _ rfl) (T.self _ 0 _ _ _ (T.keep _ _ _ st2 fun b hb o e => old b o e) (loop _ rfl))
theorem fe_comp {X : Cx} {elt iter : Expr} {x : Str} {px : Pos} {ifs : List Expr} {scope : Scope} {pos : Pos} {src : FnA} {tst : Option FnB} {fe : FnE} (osc : Scope) (N : List Str) (cs : List (Str × Nat)) (hosc : X.env.scope = osc) (hN : X.N = N) (ok : CompOk osc scope x cs N) (hcl : closureFor scope X.env = pure (clOf scope.names X.env [])) (hc : X.calm = true)
    (hi : FI X (.Name x px) iter src) (helt : ∀ C s H fp, FE (compCx X (x :: cs.map (·.1)) scope C s H fp) elt fe) (hifs : ∀ C s H fp, FIfs (compCx X (x :: cs.map (·.1)) scope C s H fp) ifs tst)
    (hs : ∀ x, foldedSetIterable iter X.env x = pure x := by intro _; kernel_rfl) : FE X (.ListComp elt [⟨.Name x px, iter, ifs, 0⟩] scope pos) (fComp cs src tst fe) := by
  subst hosc hN
  exact fe_comp0 cs ok hcl hc hi helt hifs hs
end FD
namespace FD
open PySem PySem.Spec PyProof.Rows L2

/-! ### operations on plain values -/
section
variable {X : Cx}
def addD : Dv → Dv → Option (Rs Dv)
  | .int i, .int j => some (.ok (.int (i + j)))
  | .str x, .str y => if x.length + y.length ≤ 100000 then some (.ok (.str (x ++ y))) else none
  | .lst a, .lst b => if a.length + b.length ≤ 100000 then some (.ok (.lst (a ++ b))) else none
  | _, _ => none
def rAdd3 : R2 := fun x y H Q => rI0 (fun i j => .int (i + j)) x y H Q ∨ ((∃ i j, x = .str i ∧ y = .str j ∧ i.length + j.length ≤ sizeLine ∧ Q (.str (i ++ j)) H) ∨ rCat x y H Q)
theorem o_add : OpR X (binaryOp .Add) rAdd3 := op_add.or (op_add_str.or op_cat)
theorem g_add : GOp X rAdd3 addD := by
  intro dx dy x y H Q rx ry o
  cases dx <;> cases dy <;> try exact (show False from o).elim
  · rename_i i j
    exact .inl ⟨i, j, rx, ry, o _ H (.refl H) rfl⟩
  · rename_i i j
    simp only [addD] at o
    split at o
    · rename_i hl
      exact .inr (.inl ⟨i, j, rx, ry, le_line hl, o _ H (.refl H) rfl⟩)
    · exact o.elim
  · rename_i a b
    simp only [addD] at o
    split at o
    · rename_i hl
      obtain ⟨p, xs, rfl, h1, q1⟩ := rx.lstE
      obtain ⟨p2, xs2, rfl, h2, q2⟩ := ry.lstE
      refine .inr (.inr ⟨p, p2, xs, xs2, rfl, rfl, h1, h2, by rw [q1.length, q2.length]; exact le_line hl, fun l hl => o _ _ (same_new hl _) ⟨l, _, rfl, upd_same, Reps.mono (same_new hl _) _ _ (q1.append q2)⟩⟩)
    · exact o.elim
def subD : Dv → Dv → Option (Rs Dv)
  | .int i, .int j => some (.ok (.int (i - j)))
  | _, _ => none
theorem g_sub : GOp X (rI0 fun i j => .int (i - j)) subD := by
  intro dx dy x y H Q rx ry o
  cases dx <;> cases dy <;> try exact (show False from o).elim
  rename_i i j
  exact ⟨i, j, rx, ry, o _ H (.refl H) rfl⟩
def mulD : Dv → Dv → Option (Rs Dv)
  | .int i, .int j => if (-18446744073709551616 < i ∧ i < 18446744073709551616) ∨ (-18446744073709551616 < j ∧ j < 18446744073709551616) then some (.ok (.int (i * j))) else none
  | _, _ => none
theorem g_mul : GOp X (rI CMul fun i j => .int (i * j)) mulD := by
  intro dx dy x y H Q rx ry o
  cases dx <;> cases dy <;> try exact (show False from o).elim
  rename_i i j
  simp only [mulD] at o
  split at o
  · rename_i h
    exact ⟨i, j, rx, ry, h, o _ H (.refl H) rfl⟩
  · exact o.elim
def modD : Dv → Dv → Option (Rs Dv)
  | .int i, .int j => if 0 < j then some (.ok (.int (i % j))) else none
  | _, _ => none
theorem g_mod : GOp X (rI (fun _ j => 0 < j) fun i j => .int (i % j)) modD := by
  intro dx dy x y H Q rx ry o
  cases dx <;> cases dy <;> try exact (show False from o).elim
  rename_i i j
  simp only [modD] at o
  split at o
  · rename_i h
    exact ⟨i, j, rx, ry, h, o _ H (.refl H) rfl⟩
  · exact o.elim
def fdivD : Dv → Dv → Option (Rs Dv)
  | .int i, .int j => if 0 < j ∧ j < 1073741824 then some (.ok (.int (i / j))) else none
  | _, _ => none
theorem g_fdiv : GOp X (rI CDiv fun i j => .int (i / j)) fdivD := by
  intro dx dy x y H Q rx ry o
  cases dx <;> cases dy <;> try exact (show False from o).elim
  rename_i i j
  simp only [fdivD] at o
  split at o
  · rename_i h
    exact ⟨i, j, rx, ry, h, o _ H (.refl H) rfl⟩
  · exact o.elim
def negD : Dv → Option (Rs Dv)
  | .int i => some (.ok (.int (-i)))
  | _ => none
def f1 (g : Dv → Option (Rs Dv)) (fa : FnE) : FnE := fun ρ => bnd (fa ρ) g
theorem fe_neg {a : Expr} {fa : FnE} {pos : Pos} (ha : FE X a fa) : FE X (.UnaryOp .USub a pos) (f1 negD fa) :=
  fe_of (pe_un un_neg ha.h) fun σ H Q ρ E o => ⟨ρ, E, Out.bind o fun d v H1 e r o1 => by
    cases d <;> try exact (show False from o1).elim
    rename_i i
    exact ⟨i, r, o1 _ H1 (.refl H1) rfl⟩⟩

/-! ### comparisons -/
def seq (x y : Str) : Bool := x.cps.toList == y.cps.toList
theorem seq_eq (x y : Str) : (x == y) = seq x y := by
  rw [Bool.eq_iff_iff]
  unfold seq
  obtain ⟨⟨a⟩⟩ := x
  obtain ⟨⟨b⟩⟩ := y
  simp
def eqS : Dv → Dv → Option Bool
  | .non, .non => some true
  | .non, .int _ => some false
  | .int _, .non => some false
  | .non, .bl _ => some false
  | .bl _, .non => some false
  | .non, .str _ => some false
  | .str _, .non => some false
  | .int i, .int j => some (i == j)
  | .bl i, .bl j => some (i == j)
  | .str i, .str j => some (seq i j)
  | .int _, .str _ => some false
  | .str _, .int _ => some false
  | .bl _, .str _ => some false
  | .str _, .bl _ => some false
  | _, _ => none
def eqD (x y : Dv) : Option (Rs Dv) := match eqS x y with
  | some b => some (.ok (.bl b))
  | none => none
def neD (x y : Dv) : Option (Rs Dv) := match eqS x y with
  | some b => some (.ok (.bl (!b)))
  | none => none
theorem eqS_ok {K : PySem.W.Frag} {H : Hp} {dx dy : Dv} {x y : V} {b : Bool} (rx : Rep K H dx x) (ry : Rep K H dy y) (h : eqS dx dy = some b) : scal x y = true ∧ decide (x = y) = b := by
  cases dx <;> cases dy <;> (try cases h) <;> (try (cases rx; cases ry; exact ⟨rfl, by first | rfl | exact dec_int | exact dec_bl | (rw [dec_str, seq_eq]) | simp⟩))
theorem g_eq : GOp X rEq eqD := by
  intro dx dy x y H Q rx ry o
  unfold eqD at o
  split at o
  · rename_i b hb
    obtain ⟨h1, h2⟩ := eqS_ok rx ry hb
    exact ⟨h1, by rw [h2]; exact o _ H (.refl H) rfl⟩
  · exact o.elim
theorem g_ne : GOp X rNe neD := by
  intro dx dy x y H Q rx ry o
  unfold neD at o
  split at o
  · rename_i b hb
    obtain ⟨h1, h2⟩ := eqS_ok rx ry hb
    exact ⟨h1, by rw [h2]; exact o _ H (.refl H) rfl⟩
  · exact o.elim
def cmpD (p : Int → Int → Bool) : Dv → Dv → Option (Rs Dv)
  | .int i, .int j => some (.ok (.bl (p i j)))
  | _, _ => none
theorem g_cmp (p : Int → Int → Bool) : GOp X (rI0 fun i j => .bl (p i j)) (cmpD p) := by
  intro dx dy x y H Q rx ry o
  cases dx <;> cases dy <;> try exact (show False from o).elim
  rename_i i j
  exact ⟨i, j, rx, ry, o _ H (.refl H) rfl⟩
abbrev ltD := cmpD fun i j => decide (i < j)
abbrev leD := cmpD fun i j => decide (i ≤ j)
abbrev gtD := cmpD fun i j => decide (j < i)
abbrev geD := cmpD fun i j => decide (j ≤ i)
def isN : Dv → Dv → Option (Rs Dv)
  | x, .non => some (.ok (.bl (match x with | .non => true | _ => false)))
  | _, _ => none
def notN : Dv → Dv → Option (Rs Dv)
  | x, .non => some (.ok (.bl (match x with | .non => false | _ => true)))
  | _, _ => none
theorem dec_non {K : PySem.W.Frag} {H : Hp} {d : Dv} {v : V} (r : Rep K H d v) : decide (v = .non) = (match d with | .non => true | _ => false) := by
  cases d with
  | non => cases (show v = .non from r); rfl
  | bl b => cases (show v = .bl b from r); rfl
  | int b => cases (show v = .int b from r); rfl
  | str b => cases (show v = .str b from r); rfl
  | tup ds => obtain ⟨a, xs, rfl, _⟩ := r.tupE; rfl
  | lst ds => obtain ⟨a, xs, rfl, _⟩ := r.lstE; rfl
  | scr ds => obtain ⟨a, rfl, _⟩ := r.scrE; rfl
  | exn c =>
    obtain ⟨a, _, _, _, rfl, _⟩ := r.exnE
    rfl
theorem g_isN : GOp X (fun x y H Q => y = .non ∧ Q (.bl (decide (x = .non))) H) isN := by
  intro dx dy x y H Q rx ry o
  cases dy <;> try exact (show False from o).elim
  have q := dec_non rx
  refine ⟨ry, ?_⟩
  have q2 := o _ H (.refl H) rfl
  cases dx <;> (rw [q]; exact q2)
theorem g_notN : GOp X (fun x y H Q => y = .non ∧ Q (.bl (!decide (x = .non))) H) notN := by
  intro dx dy x y H Q rx ry o
  cases dy <;> try exact (show False from o).elim
  have q := dec_non rx
  refine ⟨ry, ?_⟩
  have q2 := o _ H (.refl H) rfl
  cases dx <;> (rw [q]; exact q2)
/-- in, not in: a text in a text; a text in a list or tuple of texts -/
def inS (x y : Str) : Bool := !(Builtin.Str.occurrences y x 0 y.length 1).isEmpty
def flatD : Dv → Bool
  | .non => true
  | .bl _ => true
  | .int _ => true
  | .str _ => true
  | _ => false
def eqF : Dv → Dv → Bool
  | .non, .non => true
  | .bl a, .bl b => a == b
  | .bl a, .int b => (if a then 1 else 0) == b
  | .int a, .bl b => a == (if b then 1 else 0)
  | .int a, .int b => a == b
  | .str a, .str b => seq a b
  | _, _ => false
def inL (x : Dv) (ys : List Dv) : Option Bool := if flatD x && ys.all flatD then some (ys.any fun y => eqF y x) else none
def inD0 : Dv → Dv → Option Bool
  | .str x, .str y => some (inS x y)
  | x, .lst ys => inL x ys
  | x, .tup ys => inL x ys
  | _, _ => none
def inD (x y : Dv) : Option (Rs Dv) := match inD0 x y with
  | some b => some (.ok (.bl b))
  | none => none
def notInD (x y : Dv) : Option (Rs Dv) := match inD0 x y with
  | some b => some (.ok (.bl (!b)))
  | none => none
theorem flat_ok {K : PySem.W.Frag} {H : Hp} {d : Dv} {v : V} (r : Rep K H d v) (h : flatD d = true) : flatV v = true := by
  cases d <;> first | (cases h; done) | (cases r; rfl)
theorem flats_ok {K : PySem.W.Frag} {H : Hp} : ∀ {ds : List Dv} {vs : List V}, Reps K H ds vs → ds.all flatD = true → vs.all flatV = true
  | [], vs, r, _ => by cases (show vs = [] from r); rfl
  | d :: ds, vs, r, h => by
    obtain ⟨v, us, rfl, r1, r2⟩ : ∃ v us, vs = v :: us ∧ Rep K H d v ∧ Reps K H ds us := r
    rw [List.all_cons, Bool.and_eq_true] at h
    rw [List.all_cons, Bool.and_eq_true]
    exact ⟨flat_ok r1 h.1, flats_ok r2 h.2⟩
theorem eqF_ok {K : PySem.W.Frag} {H : Hp} {d e : Dv} {v u : V} (r : Rep K H d v) (q : Rep K H e u) (h : flatD d = true) (h' : flatD e = true) : eqV v u = eqF d e := by
  cases d <;> first | (cases h; done) | (cases r; cases e <;> first | (cases h'; done) | (cases q; first | rfl | exact seq_eq _ _))
theorem any_ok {K : PySem.W.Frag} {H : Hp} {e : Dv} {u : V} (q : Rep K H e u) (h' : flatD e = true) : ∀ {ds : List Dv} {vs : List V}, Reps K H ds vs → ds.all flatD = true → (vs.any fun y => eqV y u) = ds.any fun y => eqF y e
  | [], vs, r, _ => by cases (show vs = [] from r); rfl
  | d :: ds, vs, r, h => by
    obtain ⟨v, us, rfl, r1, r2⟩ : ∃ v us, vs = v :: us ∧ Rep K H d v ∧ Reps K H ds us := r
    rw [List.all_cons, Bool.and_eq_true] at h
    rw [List.any_cons, List.any_cons, eqF_ok r1 q h.1 h', any_ok q h' r2 h.2]
theorem inL_ok {K : PySem.W.Frag} {H : Hp} {dx : Dv} {ys : List Dv} {x : V} {vs : List V} {b : Bool} (rx : Rep K H dx x) (ry : Reps K H ys vs) (h : inL dx ys = some b) : flatV x = true ∧ vs.all flatV = true ∧ inV x vs = b := by
  unfold inL at h
  split at h
  · rename_i hc
    rw [Bool.and_eq_true] at hc
    cases h
    exact ⟨flat_ok rx hc.1, flats_ok ry hc.2, any_ok rx hc.1 ry hc.2⟩
  · cases h
def rIn2 (K : PySem.W.Frag) : R2 := fun x y H Q => (∃ i j, x = .str i ∧ y = .str j ∧ Q (.bl (!(Builtin.Str.occurrences j i 0 j.length 1).isEmpty)) H) ∨ rIn K false x y H Q
def rNotIn2 (K : PySem.W.Frag) : R2 := fun x y H Q => (∃ i j, x = .str i ∧ y = .str j ∧ Q (.bl (!(!(Builtin.Str.occurrences j i 0 j.length 1).isEmpty))) H) ∨ rIn K true x y H Q
theorem o_in : OpR X (compareOp .In) (rIn2 X.K) := op_in_str.or op_in_seq
theorem o_notIn : OpR X (compareOp .NotIn) (rNotIn2 X.K) := op_notIn_str.or op_notIn_seq
theorem g_in : GOp X (rIn2 X.K) inD := by
  intro dx dy x y H Q rx ry o
  unfold inD at o
  split at o
  · rename_i b hb
    have q := o _ H (.refl H) rfl
    cases dy <;> try (cases dx <;> cases hb; done)
    · rename_i z
      cases dx <;> try (cases hb; done)
      rename_i z'
      cases hb
      exact .inl ⟨z', z, rx, ry, q⟩
    · rename_i ys
      have hb' : inL dx ys = some b := by cases dx <;> exact hb
      obtain ⟨a, vs, rfl, h1, h2⟩ := ry.tupE
      obtain ⟨f1, f2, f3⟩ := inL_ok rx h2 hb'
      exact .inr ⟨a, vs, rfl, .inr (SqT.of h1), f1, f2, by rw [if_neg Bool.false_ne_true, f3]; exact q⟩
    · rename_i ys
      have hb' : inL dx ys = some b := by cases dx <;> exact hb
      obtain ⟨a, vs, rfl, h1, h2⟩ := ry.lstE
      obtain ⟨f1, f2, f3⟩ := inL_ok rx h2 hb'
      exact .inr ⟨a, vs, rfl, .inl (SqL.of h1), f1, f2, by rw [if_neg Bool.false_ne_true, f3]; exact q⟩
  · exact o.elim
theorem g_notIn : GOp X (rNotIn2 X.K) notInD := by
  intro dx dy x y H Q rx ry o
  unfold notInD at o
  split at o
  · rename_i b hb
    have q := o _ H (.refl H) rfl
    cases dy <;> try (cases dx <;> cases hb; done)
    · rename_i z
      cases dx <;> try (cases hb; done)
      rename_i z'
      cases hb
      exact .inl ⟨z', z, rx, ry, q⟩
    · rename_i ys
      have hb' : inL dx ys = some b := by cases dx <;> exact hb
      obtain ⟨a, vs, rfl, h1, h2⟩ := ry.tupE
      obtain ⟨f1, f2, f3⟩ := inL_ok rx h2 hb'
      exact .inr ⟨a, vs, rfl, .inr (SqT.of h1), f1, f2, by rw [if_pos rfl, f3]; exact q⟩
    · rename_i ys
      have hb' : inL dx ys = some b := by cases dx <;> exact hb
      obtain ⟨a, vs, rfl, h1, h2⟩ := ry.lstE
      obtain ⟨f1, f2, f3⟩ := inL_ok rx h2 hb'
      exact .inr ⟨a, vs, rfl, .inl (SqL.of h1), f1, f2, by rw [if_pos rfl, f3]; exact q⟩
  · exact o.elim

/-! ### items, cuts -/
def atD {α : Type} (xs : List α) (i : Int) : Option α := if 0 ≤ i then xs[i.toNat]? else if -(xs.length : Int) ≤ i then xs[(i + xs.length).toNat]? else none
theorem atD_atI {α : Type} {xs : List α} {i : Int} {v : α} (h : atD xs i = some v) : atI xs i = some v := by
  unfold atD at h
  unfold atI ixN
  split at h
  · rename_i h0
    have hl : i.toNat < xs.length := by
      obtain ⟨q, _⟩ := List.getElem?_eq_some_iff.mp h
      exact q
    rw [if_pos h0, if_pos (by omega)]
    exact h
  · rename_i h0
    split at h
    · rename_i h1
      rw [if_neg h0, if_pos h1]
      exact h
    · cases h
def ixD : Dv → Dv → Option (Rs Dv)
  | .lst xs, .int i => (match atD xs i with | some d => some (.ok d) | none => none)
  | .tup xs, .int i => (match atD xs i with | some d => some (.ok d) | none => none)
  | .str z, .int i => if z.length ≤ 100000 then (match atD z.cps.toList i with | some c => some (.ok (.str ⟨#[c]⟩)) | none => none) else none
  | .scr ns, .int i => (match atD ns i with | some d => some (.ok (.int d)) | none => none)
  | _, _ => none
theorem atD_len {α β : Type} {xs : List α} {ys : List β} (h : ys.length = xs.length) {i : Int} {x : α} (e : atD xs i = some x) : ∃ j : Nat, xs[j]? = some x ∧ ∀ y, ys[j]? = some y → atD ys i = some y := by
  unfold atD at e
  split at e
  · rename_i h0
    exact ⟨_, e, fun y q => by unfold atD; rw [if_pos h0]; exact q⟩
  · rename_i h0
    split at e
    · rename_i h1
      exact ⟨_, e, fun y q => by unfold atD; rw [if_neg h0, h, if_pos h1]; exact q⟩
    · cases e
theorem g_ix : GOp X (rIx X.K) ixD := by
  intro dx dy x y H Q rx ry o
  cases dx <;> cases dy <;> try exact (show False from o).elim
  · rename_i z i
    simp only [ixD] at o
    split at o
    · rename_i hl
      split at o
      · rename_i c hc
        exact .inr (.inr ⟨z, i, c, rx, ry, le_line hl, atD_atI hc, o _ H (.refl H) rfl⟩)
      · exact o.elim
    · exact o.elim
  · rename_i ds i
    simp only [ixD] at o
    split at o
    · rename_i d hd
      obtain ⟨a, xs, rfl, h1, h2⟩ := rx.tupE
      obtain ⟨j, e1, e2⟩ := atD_len h2.length hd
      obtain ⟨v, e3, r3⟩ := h2.get' e1
      exact .inr (.inl ⟨a, xs, i, v, rfl, ry, SqT.of h1, atD_atI (e2 v e3), o v H (.refl H) r3⟩)
    · exact o.elim
  · rename_i ds i
    simp only [ixD] at o
    split at o
    · rename_i d hd
      obtain ⟨a, xs, rfl, h1, h2⟩ := rx.lstE
      obtain ⟨j, e1, e2⟩ := atD_len h2.length hd
      obtain ⟨v, e3, r3⟩ := h2.get' e1
      exact .inl ⟨a, xs, i, v, rfl, ry, SqL.of h1, atD_atI (e2 v e3), o v H (.refl H) r3⟩
    · exact o.elim
  · rename_i ns i
    simp only [ixD] at o
    split at o
    · rename_i d hd
      obtain ⟨a, rfl, h1⟩ := rx.scrE
      obtain ⟨j, e1, e2⟩ := atD_len (ys := ns.map V.int) (by simp) hd
      exact .inl ⟨a, _, i, .int d, rfl, ry, h1, atD_atI (e2 _ (by rw [List.getElem?_map, e1] <;> rfl)), o _ H (.refl H) rfl⟩
    · exact o.elim
theorem fe_ix {a b : Expr} {fa fb : FnE} {pos : Pos} (ha : FE X a fa) (hb : FE X b fb) (hs : PlainIx b := by intro _ _; kernel_rfl) : FE X (.Subscript a b pos) (f2 ixD fa fb) :=
  fe_of (pe_ix ix_seq ha.h hb.h hs) fun _ _ _ _ E o => two g_ix E o
/-- a part of a cut -/
abbrev FnO := Ev → Option (Rs (Option Int))
def OutO (X : Cx) (H : Hp) (o : Option (Rs (Option Int))) (Q : Option Int → Hp → Prop) : Prop := match o with
  | none => False
  | some (.exc c) => XW X c H
  | some (.ok d) => ∀ H', Same H H' → Q d H'
theorem OutO.mono {H H' : Hp} {Q : Option Int → Hp → Prop} (e : Same H H') : ∀ {o : Option (Rs (Option Int))}, OutO X H o Q → OutO X H' o Q
  | none, h => h
  | some (.exc _), h => XW.mono h e
  | some (.ok _), h => fun H1 e1 => h H1 (e.trans e1)
structure FO (X : Cx) (e : Option Expr) (f : FnO) : Prop where
  h : PO X e fun σ H Q => ∃ ρ, Envs X.K H σ ρ ∧ OutO X H (f ρ) Q
def oNone : FnO := fun _ => some (.ok none)
def toI : Dv → Option (Rs (Option Int))
  | .int i => some (.ok (some i))
  | _ => none
def oSome (f : FnE) : FnO := fun ρ => bnd (f ρ) toI
theorem fo_none : FO X none oNone := ⟨fun pins s σ H Q I ⟨_, _, o⟩ => po_none pins s σ H Q I (o H (.refl H))⟩
theorem fo_some {e : Expr} {fa : FnE} (h : FE X e fa) : FO X (some e) (oSome fa) := ⟨fun pins s σ H Q I ⟨ρ, E, o⟩ => po_some h.h pins s σ H Q I ⟨ρ, E, by
  unfold oSome at o
  match hf : fa ρ, o with
  | none, o => exact o
  | some (.exc c), o => exact o
  | some (.ok d), o =>
    intro v H' e r
    cases d <;> try exact (show False from o).elim
    rename_i i
    exact ⟨i, r, o H' e⟩⟩⟩
def cutL {α : Type} (xs : List α) (lo hi : Option Int) : List α := (xs.drop (HT.sIx xs.length 0 lo)).take (HT.sIx xs.length xs.length hi - HT.sIx xs.length 0 lo)
def rSlS : V → Option Int → Option Int → Hp → VK → Prop := fun x lo hi H Q => ∃ z, x = .str z ∧ z.length ≤ sizeLine ∧ Q (.str (Txt.slice z lo hi)) H
theorem sl_str : SlR X rSlS := by
  intro pins s σ H x v vl vu lo hi sl Q I rx hs pl pu q
  obtain ⟨z, rfl, hz, q⟩ := q
  obtain ⟨t, rfl⟩ := rx
  refine ⟨"str", _, F.slot_str_getitem.lookup, typeIs_str _ _ _, ?_⟩
  have fin : ∀ (t' : Tok) (k : Nat), EP X pins σ Q (.str (Txt.slice z lo hi) t') { s with toks := k } := fun t' k => ⟨.str (Txt.slice z lo hi), H, I.tok _, ⟨_, rfl⟩, q⟩
  cases pl with
  | none =>
    cases pu with
    | none => exact wpAny_getItem_str_slice (l := none) (u := none) (st := none) hs rfl (post_val_or_str ⟨Nat.le_trans (Txt.slice_le z _ _) hz, fun t' k => fin t' k⟩)
    | int j u => exact wpAny_getItem_str_slice (l := none) (u := some (j, u)) (st := none) hs rfl (post_val_or_str ⟨Nat.le_trans (Txt.slice_le z _ _) hz, fun t' k => fin t' k⟩)
  | int i u' =>
    cases pu with
    | none => exact wpAny_getItem_str_slice (l := some (i, u')) (u := none) (st := none) hs rfl (post_val_or_str ⟨Nat.le_trans (Txt.slice_le z _ _) hz, fun t' k => fin t' k⟩)
    | int j u => exact wpAny_getItem_str_slice (l := some (i, u')) (u := some (j, u)) (st := none) hs rfl (post_val_or_str ⟨Nat.le_trans (Txt.slice_le z _ _) hz, fun t' k => fin t' k⟩)
def cutD (x : Dv) (lo hi : Option Int) : Option (Rs Dv) := match x with
  | .str z => if z.length ≤ 100000 then some (.ok (.str (Txt.slice z lo hi))) else none
  | .lst xs => some (.ok (.lst (cutL xs lo hi)))
  | _ => none
def fCut (fa : FnE) (fl fh : FnO) : FnE := fun ρ => bnd (fa ρ) fun x => bnd (fl ρ) fun lo => bnd (fh ρ) fun hi => cutD x lo hi
theorem outO_bind {H : Hp} {Q : VK} {o : Option (Rs (Option Int))} {k : Option Int → Option (Rs Dv)} {P : Option Int → Hp → Prop} (h : Out X H (bnd o k) Q) (hp : ∀ b H', Same H H' → Out X H' (k b) Q → P b H') : OutO X H o P := by
  match o, h with
  | some (.exc _), h => exact h
  | some (.ok d), h => exact fun H1 e => hp d H1 e (Out.mono e h)
theorem fe_cut {a : Expr} {lo hi : Option Expr} {fa : FnE} {fl fh : FnO} {p2 pos : Pos} (ha : FE X a fa) (hl : FO X lo fl) (hh : FO X hi fh) : FE X (.Subscript a (.Slice lo hi none p2) pos) (fCut fa fl fh) :=
  fe_of (pe_slice (sl_str.or sl_list) ha.h hl.h hh.h) fun σ H Q ρ E o => ⟨ρ, E, Out.bind o fun d v H1 e1 r1 o1 => ⟨ρ, E.mono e1, outO_bind o1 fun l H2 e2 o2 => ⟨ρ, (E.mono e1).mono e2, outO_bind o2 fun u H3 e3 o3 => by
    have r3 := Rep.mono e3 d v (Rep.mono e2 d v r1)
    cases d <;> try exact (show False from o3).elim
    · rename_i z
      unfold cutD at o3
      dsimp only at o3
      split at o3
      · rename_i hz
        exact .inl ⟨z, r3, le_line hz, o3 _ H3 (.refl H3) rfl⟩
      · exact o3.elim
    · rename_i ds
      obtain ⟨a', xs, rfl, h1, h2⟩ := r3.lstE
      refine .inr ⟨a', xs, rfl, SqL.of h1, fun p hp => o3 _ _ (same_new hp _) ⟨p, _, rfl, upd_same, Reps.mono (same_new hp _) _ _ ?_⟩⟩
      unfold cutV cutL
      rw [h2.length]
      exact (h2.drop _).take _⟩⟩⟩

/-! ### built-in functions -/
def lenD : List Dv → Option (Rs Dv)
  | [.str z] => if z.length ≤ 100000 then some (.ok (.int z.length)) else none
  | [.lst xs] => some (.ok (.int xs.length))
  | [.tup xs] => some (.ok (.int xs.length))
  | [.scr ns] => some (.ok (.int ns.length))
  | _ => none
def fB1 (g : List Dv → Option (Rs Dv)) (ga : FnA) : FnE := fun ρ => bnd (ga ρ) g
variable {x : Str} {p pos : Pos} {e : Expr} {es : List Expr} {ga : FnA}
theorem reps1 {K : PySem.W.Frag} {H : Hp} {d : Dv} {vs : List V} (r : Reps K H [d] vs) : ∃ v, vs = [v] ∧ Rep K H d v := by
  obtain ⟨v, us, rfl, r1, r2⟩ : ∃ v us, vs = v :: us ∧ Rep K H d v ∧ Reps K H [] us := r
  cases (show us = [] from r2)
  exact ⟨v, rfl, r1⟩
theorem reps2 {K : PySem.W.Frag} {H : Hp} {d d2 : Dv} {vs : List V} (r : Reps K H [d, d2] vs) : ∃ v v2, vs = [v, v2] ∧ Rep K H d v ∧ Rep K H d2 v2 := by
  obtain ⟨v, us, rfl, r1, r2⟩ : ∃ v us, vs = v :: us ∧ Rep K H d v ∧ Reps K H [d2] us := r
  obtain ⟨v2, rfl, r3⟩ := reps1 r2
  exact ⟨v, v2, rfl, r1, r3⟩
theorem fe_len (hg : Gl X "len") (hm : X.mg "len" = none) (ha : FA X (e :: es) ga) (he : starEach (e :: es) X.env = (false, eval e X.env) :: starEach es X.env := by kernel_rfl) (hpl : (backTo pos (starEach es X.env)).any (·.1) = false := by kernel_rfl) : FE X (.Call (.Name "len" p) (e :: es) [] pos) (fB1 lenD ga) :=
  fe_of (pe_callB call_len hg hm PySem.boot_len ha.h (by decide) (by decide) he hpl) fun σ H Q ρ E o => ⟨ρ, E, OutA.bind o fun ds vs H1 e1 rs o1 => by
    unfold lenD at o1
    split at o1
    · rename_i z
      split at o1
      · rename_i hz
        obtain ⟨v, rfl, r⟩ := reps1 rs
        cases (show v = .str z from r)
        exact ⟨_, _, rfl, ⟨le_line hz, rfl⟩, o1 _ H1 (.refl H1) rfl⟩
      · exact o1.elim
    · rename_i xs
      obtain ⟨v, rfl, r⟩ := reps1 rs
      obtain ⟨a, ws, rfl, h1, h2⟩ := r.lstE
      exact ⟨_, _, rfl, .inl ⟨ws, SqL.of h1, rfl⟩, o1 _ H1 (.refl H1) (by rw [h2.length]; rfl)⟩
    · rename_i xs
      obtain ⟨v, rfl, r⟩ := reps1 rs
      obtain ⟨a, ws, rfl, h1, h2⟩ := r.tupE
      exact ⟨_, _, rfl, .inr ⟨ws, SqT.of h1, rfl⟩, o1 _ H1 (.refl H1) (by rw [h2.length]; rfl)⟩
    · rename_i ns
      obtain ⟨v, rfl, r⟩ := reps1 rs
      obtain ⟨a, rfl, h1⟩ := r.scrE
      exact ⟨_, _, rfl, .inl ⟨_, h1, rfl⟩, o1 _ H1 (.refl H1) (by rw [List.length_map]; rfl)⟩
    · exact o1.elim⟩
/-- all(list of bools) -/
def bools : List Dv → Option (List Bool)
  | [] => some []
  | .bl b :: r => (match bools r with | some bs => some (b :: bs) | none => none)
  | _ => none
def allD : List Dv → Option (Rs Dv)
  | [.lst xs] => (match bools xs with | some bs => some (.ok (.bl (bs.all id))) | none => none)
  | _ => none
theorem bools_ok {K : PySem.W.Frag} {H : Hp} : ∀ {ds : List Dv} {vs : List V} {us : List Value} {bs : List Bool}, Reps K H ds vs → Vals vs us → bools ds = some bs → us = bs.map Value.bool
  | [], vs, us, bs, r, q, h => by
    cases (show vs = [] from r)
    cases q
    cases h
    rfl
  | d :: ds, vs, us, bs, r, q, h => by
    obtain ⟨v, ws, rfl, r1, r2⟩ : ∃ v us, vs = v :: us ∧ Rep K H d v ∧ Reps K H ds us := r
    cases q with
    | cons q1 q2 =>
      cases d <;> try (cases h; done)
      rename_i b
      simp only [bools] at h
      cases hb : bools ds with
      | none => rw [hb] at h; cases h
      | some bs' =>
        rw [hb] at h
        cases h
        cases (show v = .bl b from r1)
        cases q1
        rw [bools_ok r2 q2 hb]
        rfl
theorem call_all : CallR X (.builtin "all") (fun xs H Q => ∃ a vs bs ds, xs = [.ref a] ∧ H a = some (.lst vs) ∧ Reps X.K H ds vs ∧ bools ds = some bs ∧ X.calm = true ∧ Q (.bl (bs.all id)) H) := by
  intro pins s σ H xs us Q I r h
  obtain ⟨a, vs, bs, ds, rfl, h1, h2, h3, hc, q⟩ := h
  obtain ⟨u, rfl, ru⟩ := vals1 r
  cases ru
  obtain ⟨z, its, n, rv, hl, e⟩ := I.lstM h1
  have eb := bools_ok h2 rv h3
  subst eb
  have hL : s.heap.IsList a (bs.map Value.bool).toArray := ⟨_, e, rfl, _, rfl⟩
  have hlt : a < s.heap.objs.size := Heap.lt_size e
  refine call_all_walk (wpAny_pyIter_list hL ?_)
  refine ⟨s.heap.objs.size, [s.heap.objs.size, a], [s.heap.objs.size], (bs.map Value.bool).toArray.size, _, _, fun i => (bs[i]?).getD true, rfl, Walks.list (A := X.A.in1) (I.ok.hd hc) _ a (Nat.ne_of_lt hlt) (bs.map Value.bool).toArray,
    ⟨⟨_, Heap.get?_push_size _ rfl, rfl, rfl⟩, hL.push _⟩, fun i v s' Q' E' hP hQ => ?_, fun h' tk hk => ?_⟩
  · have hP' : (bs.map Value.bool)[i]? = some v := by simpa using hP
    rw [List.getElem?_map] at hP'
    cases hb : bs[i]? with
    | none => rw [hb] at hP'; cases hP'
    | some b =>
      rw [hb] at hP'
      cases hP'
      have hQ2 : Q' ((bs[i]?).getD true) s' := hQ
      rw [hb] at hQ2
      exact wpAny_truthy_bool hQ2
  · have e2 : ((List.range (bs.map Value.bool).toArray.size).all fun i => (bs[i]?).getD true) = bs.all id := by
      rw [List.size_toArray, List.length_map]
      rw [Bool.eq_iff_iff]
      simp only [List.all_eq_true, List.mem_range, id]
      constructor
      · intro hh b hb
        obtain ⟨i, hi, rfl⟩ := List.mem_iff_getElem.mp hb
        simpa [hi] using hh i hi
      · intro hh i hi
        simp only [List.getElem?_eq_getElem hi, Option.getD_some]
        exact hh _ (List.getElem_mem hi)
    rw [e2]
    refine ⟨.bl _, H, I.kept fun b x eb => hk b x (fun hm => ?_) (Heap.get?_push_of_some _ eb), rfl, q⟩
    rw [List.mem_singleton.mp hm] at eb
    exact Nat.lt_irrefl _ (Heap.lt_size eb)
theorem fe_all (hc : X.calm = true) (hg : Gl X "all") (hm : X.mg "all" = none) (ha : FA X (e :: es) ga) (he : starEach (e :: es) X.env = (false, eval e X.env) :: starEach es X.env := by kernel_rfl) (hpl : (backTo pos (starEach es X.env)).any (·.1) = false := by kernel_rfl) : FE X (.Call (.Name "all" p) (e :: es) [] pos) (fB1 allD ga) :=
  fe_of (pe_callB call_all hg hm PyProof.Rows.boot_all ha.h (by decide) (by decide) he hpl) fun σ H Q ρ E o => ⟨ρ, E, OutA.bind o fun ds vs H1 e1 rs o1 => by
    unfold allD at o1
    split at o1
    · rename_i xs
      split at o1
      · rename_i bs hb
        obtain ⟨v, rfl, r⟩ := reps1 rs
        obtain ⟨a, ws, rfl, h1, h2⟩ := r.lstE
        exact ⟨a, ws, bs, xs, rfl, h1, h2, hb, hc, o1 _ H1 (.refl H1) rfl⟩
      · exact o1.elim
    · exact o1.elim⟩
/-- isinstance(x, T), T a built-in type -/
def tyD : Dv → String
  | .non => "NoneType"
  | .bl _ => "bool"
  | .int _ => "int"
  | .str _ => "str"
  | .tup _ => "tuple"
  | .lst _ => "list"
  | .scr _ => "list"
  | .exn _ => "object"
end
end FD
namespace FD
open PySem PySem.Spec PyProof.Rows L2
section
variable {X : Cx} {p pos apos cpos pT : Pos} {e a o : Expr} {es : List Expr} {ga : FnA} {fa fo : FnE}
/-! ### isinstance -/
theorem tyOf_ok {K : PySem.W.Frag} {H : Hp} {d : Dv} {v : V} (r : Rep K H d v) (hs : ∀ ns, d ≠ .scr ns) (hx : ∀ c, d ≠ .exn c) : TyOf K H v (.type (tyD d)) := by
  cases d with
  | non => cases (show v = .non from r); exact .non
  | bl b => cases (show v = .bl b from r); exact .bl b
  | int b => cases (show v = .int b from r); exact .int b
  | str b => cases (show v = .str b from r); exact .str b
  | tup ds => obtain ⟨a, xs, rfl, h, _⟩ := r.tupE; exact .tup h
  | lst ds => obtain ⟨a, xs, rfl, h, _⟩ := r.lstE; exact .lst h
  | scr ns => exact absurd rfl (hs ns)
  | exn c => exact absurd rfl (hx c)
theorem call_isi (T : String) : CallR X (.builtin "isinstance") (fun xs H Q => ∃ x t b, xs = [x, .ty T] ∧ TyOf X.K H x t ∧ PySem.W.kitOne X.K t (.type T) = some b ∧ Q (.bl b) H) := by
  intro pins s σ H xs us Q I r h
  obtain ⟨x, t, b, rfl, ty, hk, q⟩ := h
  obtain ⟨u, w', rfl, ru, rw'⟩ := vals2 r
  cases (show w' = Value.type T from rw')
  exact isinst_ok I ru ty hk fun tk => ⟨.bl b, H, I.tok tk, rfl, q⟩
def isiD (tb : Dv → Bool) : Dv → Option (Rs Dv)
  | .scr _ => none
  | .exn _ => none
  | d => some (.ok (.bl (tb d)))
theorem fe_isi {T : String} {tb : Dv → Bool} (hk : ∀ K d, PySem.W.kitOne K (.type (tyD d)) (.type T) = some (tb d)) (hT : bootBuiltins (Str.ofString T) = some (.type T)) (hn : Str.ofString T ≠ "__name__") (hdT : (Str.ofString T == ("__debug__" : Str)) = false)
    (hg : Gl X "isinstance") (hm : X.mg "isinstance" = none) (hgT : Gl X (Str.ofString T)) (hmT : X.mg (Str.ofString T) = none) (ha : FE X a fa)
    (hs1 : starEach [a, .Name (Str.ofString T) pT] X.env = (false, eval a X.env) :: starEach [.Name (Str.ofString T) pT] X.env := by kernel_rfl) (hs2 : starEach [.Name (Str.ofString T) pT] X.env = (false, eval (.Name (Str.ofString T) pT) X.env) :: starEach [] X.env := by kernel_rfl)
    (hpl : (backTo pos (starEach [.Name (Str.ofString T) pT] X.env)).any (·.1) = false := by kernel_rfl) :
    FE X (.Call (.Name "isinstance" p) [a, .Name (Str.ofString T) pT] [] pos) (f1 (isiD tb) fa) :=
  fe_of (pe_callB (call_isi T) hg hm PyProof.Rows.boot_isinstance (pa_cons ha.h (pa_cons (pe_bltn (v := .ty T) hgT hmT hT rfl hn hdT) pa_nil hs2) hs1) (by decide) (by decide) hs1 hpl) fun σ H Q ρ E o => ⟨ρ, E, Out.bind o fun d v H1 e1 r o1 => by
    show ∃ x t b, [v, V.ty T] = [x, .ty T] ∧ _
    cases d with
    | scr ns => exact o1.elim
    | exn c => exact o1.elim
    | _ => exact ⟨v, _, _, rfl, tyOf_ok r (fun ns z => by cases z) (fun c z => by cases z), hk X.K _, o1 _ H1 (.refl H1) rfl⟩⟩
def tbStr : Dv → Bool
  | .str _ => true
  | _ => false
theorem kit_str (K : PySem.W.Frag) (d : Dv) : PySem.W.kitOne K (.type (tyD d)) (.type "str") = some (tbStr d) := by cases d <;> kernel_rfl
def tbTup : Dv → Bool
  | .tup _ => true
  | _ => false
theorem kit_tup (K : PySem.W.Frag) (d : Dv) : PySem.W.kitOne K (.type (tyD d)) (.type "tuple") = some (tbTup d) := by cases d <;> kernel_rfl
def tbBool : Dv → Bool
  | .bl _ => true
  | _ => false
theorem kit_bool (K : PySem.W.Frag) (d : Dv) : PySem.W.kitOne K (.type (tyD d)) (.type "bool") = some (tbBool d) := by cases d <;> kernel_rfl

/-! ### methods of texts -/
def fM (g : Str → List Dv → Option (Rs Dv)) (fo : FnE) (ga : FnA) : FnE := fun ρ => bnd (fo ρ) fun x => match x with
  | .str i => bnd (ga ρ) fun xs => g i xs
  | _ => none
def strB (h : Str → Str → Bool) : Str → List Dv → Option (Rs Dv)
  | x, [.str y] => some (.ok (.bl (h x y)))
  | _, _ => none
def strI (h : Str → Str → Int) : Str → List Dv → Option (Rs Dv)
  | x, [.str y] => some (.ok (.int (h x y)))
  | _, _ => none
def rStrB (h : Str → Str → Bool) : V → List V → Hp → VK → Prop := fun x xs H Q => ∃ i j, x = .str i ∧ xs = [.str j] ∧ Q (.bl (h i j)) H
def rStrI (h : Str → Str → Int) : V → List V → Hp → VK → Prop := fun x xs H Q => ∃ i j, x = .str i ∧ xs = [.str j] ∧ Q (.int (h i j)) H
theorem mt_sw : MtR X "str.startswith" (rStrB Txt.startswith) := by
  intro pins s σ H x xs v us Q I rx rs h
  obtain ⟨i, j, rfl, rfl, q⟩ := h
  obtain ⟨t, rfl⟩ := rx
  obtain ⟨u, rfl, ru⟩ := vals1 rs
  obtain ⟨t', rfl⟩ := ru
  exact SC.startswith ⟨.bl _, H, I, rfl, q⟩
theorem mt_ew : MtR X "str.endswith" (rStrB Txt.endswith) := by
  intro pins s σ H x xs v us Q I rx rs h
  obtain ⟨i, j, rfl, rfl, q⟩ := h
  obtain ⟨t, rfl⟩ := rx
  obtain ⟨u, rfl, ru⟩ := vals1 rs
  obtain ⟨t', rfl⟩ := ru
  exact SC.endswith ⟨.bl _, H, I, rfl, q⟩
theorem mt_rfind : MtR X "str.rfind" (rStrI Txt.rfind) := by
  intro pins s σ H x xs v us Q I rx rs h
  obtain ⟨i, j, rfl, rfl, q⟩ := h
  obtain ⟨t, rfl⟩ := rx
  obtain ⟨u, rfl, ru⟩ := vals1 rs
  obtain ⟨t', rfl⟩ := ru
  exact SC.rfind ⟨.int _, H, I.tok _, ⟨_, rfl⟩, q⟩
theorem mt_find : MtR X "str.find" (rStrI Txt.find) := by
  intro pins s σ H x xs v us Q I rx rs h
  obtain ⟨i, j, rfl, rfl, q⟩ := h
  obtain ⟨t, rfl⟩ := rx
  obtain ⟨u, rfl, ru⟩ := vals1 rs
  obtain ⟨t', rfl⟩ := ru
  exact SC.find ⟨.int _, H, I.tok _, ⟨_, rfl⟩, q⟩
theorem mt_count : MtR X "str.count" (rStrI Txt.count) := by
  intro pins s σ H x xs v us Q I rx rs h
  obtain ⟨i, j, rfl, rfl, q⟩ := h
  obtain ⟨t, rfl⟩ := rx
  obtain ⟨u, rfl, ru⟩ := vals1 rs
  obtain ⟨t', rfl⟩ := ru
  exact SC.count ⟨.int _, H, I.tok _, ⟨_, rfl⟩, q⟩
/-- o.m(..), o a text: the method's own rule r, what it is as a function g -/
theorem fe_strM {name : Str} {id : String} {r : V → List V → Hp → VK → Prop} {g : Str → List Dv → Option (Rs Dv)} (slot : Slot "str" name id) (hty : typeOf (.builtin id) = pure (.type "method_descriptor")) (hm : MtR X id r)
    (hg : ∀ i ds vs H Q, Reps X.K H ds vs → Out X H (g i ds) Q → r (.str i) vs H Q) (ho : FE X o fo) (ha : FA X (e :: es) ga)
    (hbase : attributeBase o name X.env (eval o X.env) = eval o X.env := by kernel_rfl)
    (hfew : ((backTo cpos (starEach (e :: es) X.env)).all (fun x => !x.1) && (backToKw cpos (keywordEach [] X.env)).all (fun x => x.1.isSome)
      && decide ((e :: es).length + ([] : List Keyword).length + (if ([] : List Keyword).isEmpty then 0 else 1) < 30)) = true := by kernel_rfl)
    (hline : (apos.endLine == cpos.line) = true := by kernel_rfl) (hs : starEach (e :: es) X.env = (false, eval e X.env) :: starEach es X.env := by kernel_rfl) (hplain : (backTo cpos (starEach es X.env)).any (·.1) = false := by kernel_rfl) :
    FE X (.Call (.Attribute o name apos) (e :: es) [] cpos) (fM g fo ga) :=
  fe_of (pe_bm PySem.F.plainAttrs_str slot hty hm ho.h ha.h hbase hfew hline hs hplain) fun σ H Q ρ E o => ⟨ρ, E, Out.bind o fun d v H1 e1 rd o1 => by
    cases d <;> try exact (show False from o1).elim
    rename_i i
    cases (show v = .str i from rd)
    exact ⟨rfl, ρ, E.mono e1, OutA.bind o1 fun ds vs H2 e2 rs o2 => hg i ds vs H2 Q rs o2⟩⟩
theorem g_strB {h : Str → Str → Bool} (i : Str) (ds : List Dv) (vs : List V) (H : Hp) (Q : VK) (rs : Reps X.K H ds vs) (o : Out X H (strB h i ds) Q) : rStrB h (.str i) vs H Q := by
  unfold strB at o
  split at o
  · rename_i j
    obtain ⟨w, rfl, rw'⟩ := reps1 rs
    cases (show w = .str j from rw')
    exact ⟨i, j, rfl, rfl, o _ H (.refl H) rfl⟩
  · exact o.elim
theorem g_strI {h : Str → Str → Int} (i : Str) (ds : List Dv) (vs : List V) (H : Hp) (Q : VK) (rs : Reps X.K H ds vs) (o : Out X H (strI h i ds) Q) : rStrI h (.str i) vs H Q := by
  unfold strI at o
  split at o
  · rename_i j
    obtain ⟨w, rfl, rw'⟩ := reps1 rs
    cases (show w = .str j from rw')
    exact ⟨i, j, rfl, rfl, o _ H (.refl H) rfl⟩
  · exact o.elim
/-! ### the script against the empty list -/
def rScr (K : PySem.W.Frag) : R2 := fun x y H Q => ∃ (a b : Addr) (ns : List Int), x = .ref a ∧ y = .ref b ∧ SqL K H a (ns.map V.int) ∧ H b = some (.lst []) ∧ Q (.bl ns.isEmpty) H
theorem o_scr (hu : X.A.units < cLine) : OpR X (compareOp .Eq) (rScr X.K) := by
  intro pins s σ H x y v u Q I rx ry h
  obtain ⟨a, b, ns, rfl, rfl, h1, h2, q⟩ := h
  cases rx
  cases ry
  obtain ⟨its, r, pl, hz⟩ := I.list h1
  obtain ⟨z2, its2, n2, r2, hl2, e2⟩ := I.lstM h2
  cases r2
  have hb : s.heap.IsList b #[] := ⟨_, e2, rfl, _, rfl⟩
  have hl := r.length
  cases ns with
  | nil =>
    have e0 : its = [] := by cases its with | nil => rfl | cons _ _ => simp at hl
    subst e0
    exact SeqAt.eq_listAt (e := fun _ => true) pl.isList hb rfl hu (fun i hi => absurd hi (by simp)) (by first | exact ⟨.bl _, H, I, rfl, q⟩ | (refine ⟨.bl _, H, I, ?_, q⟩; simp [RelV]))
  | cons n ns =>
    refine SeqAt.eq_list_lengthsAt pl.isList hb ?_ hu ⟨.bl _, H, I, rfl, q⟩
    have : 0 < its.length := by rw [← hl]; simp
    simp
    exact fun z => by rw [z] at this; simp at this
def scrD : Dv → Dv → Option (Rs Dv)
  | .scr ns, .lst [] => some (.ok (.bl ns.isEmpty))
  | _, _ => none
theorem g_scr : GOp X (rScr X.K) scrD := by
  intro dx dy x y H Q rx ry o
  unfold scrD at o
  split at o
  · rename_i ns
    obtain ⟨a, rfl, h1⟩ := rx.scrE
    obtain ⟨b, xs, rfl, h2, h3⟩ := ry.lstE
    cases (show xs = [] from h3)
    exact ⟨a, b, ns, rfl, rfl, h1, h2, o _ H (.refl H) rfl⟩
  · exact o.elim
end
end FD
namespace FD
open PySem
theorem bt_str : bootBuiltins (Str.ofString "str") = some (.type "str") := PyProof.Rows.boot_str
theorem bt_tuple : bootBuiltins (Str.ofString "tuple") = some (.type "tuple") := by decide +kernel
theorem bt_bool : bootBuiltins (Str.ofString "bool") = some (.type "bool") := by decide +kernel
end FD
namespace FD
open PySem PySem.Spec PyProof.Rows L2
/-! ### == and != of any two plain values -/
mutual
def toPy : Dv → PyData
  | .non => .none
  | .bl b => .bool b
  | .int i => .int i
  | .str x => .str x
  | .tup xs => .tuple (toPys xs)
  | .lst xs => .list (toPys xs)
  | .scr ns => .list (ns.map PyData.int)
  | .exn _ => .dict []
def toPys : List Dv → List PyData
  | [] => []
  | d :: ds => toPy d :: toPys ds
end
section
variable {X : Cx} {pins : List (Addr × Obj)} {σ : L2.St} {H : Hp} {s : Shared}
theorem ints_reads : ∀ {ns : List Int} {us : List Value}, Vals (ns.map V.int) us → ∃ as, ReadsAll s.heap us (ns.map PyData.int) as
  | [], us, r => by cases r; exact ⟨_, .nil⟩
  | n :: ns, us, r => by
    cases r with
    | cons r1 r2 =>
      obtain ⟨t, rfl⟩ := r1
      obtain ⟨as, q⟩ := ints_reads r2
      exact ⟨_, .cons (.int n t) q⟩
mutual
theorem Rep.reads (I : Inv X pins σ H s) : ∀ (d : Dv) (v : V) (u : Value), Rep X.K H d v → RelV v u → (toPy d).canLay0 = true → ∃ as, Reads s.heap u (toPy d) as
  | .non, v, u, r, q, hz0 => by cases (show v = .non from r); cases (show u = Value.none from q); exact ⟨_, .none⟩
  | .bl b, v, u, r, q, hz0 => by cases (show v = .bl b from r); cases (show u = Value.bool b from q); exact ⟨_, .bool b⟩
  | .int i, v, u, r, q, hz0 => by cases (show v = .int i from r); obtain ⟨t, rfl⟩ := (show ∃ t, u = Value.int i t from q); exact ⟨_, .int i t⟩
  | .str x, v, u, r, q, hz0 => by cases (show v = .str x from r); obtain ⟨t, rfl⟩ := (show ∃ t, u = Value.str x t from q); exact ⟨_, .str x t⟩
  | .tup ds, v, u, r, q, hz0 => by
    obtain ⟨a, xs, rfl, h, rs⟩ := r.tupE
    cases (show u = Value.ref a from q)
    obtain ⟨its, rv, ⟨o, e, c, n, d⟩, hz⟩ := I.tuple (SqT.of h)
    obtain ⟨as, ra⟩ := Reps.reads I ds xs its rs rv (by simpa [toPy, PyData.canLay0] using hz0)
    exact ⟨as, .tuple e c d (by simpa using ra)⟩
  | .lst ds, v, u, r, q, hz0 => by
    obtain ⟨a, xs, rfl, h, rs⟩ := r.lstE
    cases (show u = Value.ref a from q)
    obtain ⟨z, its, n, rv, hl, e⟩ := I.lstM h
    obtain ⟨as, ra⟩ := Reps.reads I ds xs its rs rv (by simpa [toPy, PyData.canLay0] using hz0)
    exact ⟨a :: as, .list e rfl rfl (by simpa using ra)⟩
  | .scr ns, v, u, r, q, hz0 => by
    obtain ⟨a, rfl, h⟩ := r.scrE
    cases (show u = Value.ref a from q)
    obtain ⟨its, rv, ⟨o, n, e, c, hd, d⟩, hz⟩ := I.list h
    obtain ⟨as, ra⟩ := ints_reads (s := s) rv
    exact ⟨a :: as, .list e c d (by simpa using ra)⟩
  | .exn c, v, u, r, q, hz0 => by simp [toPy, PyData.canLay0] at hz0
theorem Reps.reads (I : Inv X pins σ H s) : ∀ (ds : List Dv) (vs : List V) (us : List Value), Reps X.K H ds vs → Vals vs us → PyData.canLayAll0 (toPys ds) = true → ∃ as, ReadsAll s.heap us (toPys ds) as
  | [], vs, us, r, q, _ => by cases (show vs = [] from r); cases q; exact ⟨_, .nil⟩
  | d :: ds, vs, us, r, q, hz0 => by
    obtain ⟨v, ws, rfl, r1, r2⟩ : ∃ v us, vs = v :: us ∧ Rep X.K H d v ∧ Reps X.K H ds us := r
    cases q with
    | cons q1 q2 =>
      have hz1 : (toPy d).canLay0 = true ∧ PyData.canLayAll0 (toPys ds) = true := by simpa [toPys, PyData.canLayAll0] using hz0
      obtain ⟨as, a⟩ := Rep.reads I d v _ r1 q1 hz1.1
      obtain ⟨bs, b⟩ := Reps.reads I ds ws _ r2 q2 hz1.2
      exact ⟨_, .cons a b⟩
end
end
section
variable {X : Cx}
def okP (d : Dv) : Bool := SeqAt.shaped (toPy d)
def rPy (X : Cx) (neg : Bool) : R2 := fun x y H Q => ∃ dx dy, Rep X.K H dx x ∧ Rep X.K H dy y ∧ okP dx = true ∧ okP dy = true ∧ Q (.bl (if neg then !PyData.eqv (toPy dx) (toPy dy) else PyData.eqv (toPy dx) (toPy dy))) H
theorem op_eqP (hu : X.A.units + 64 < cLine) : OpR X (compareOp .Eq) (rPy X false) := by
  intro pins s σ H x y v u Q I rx ry h
  obtain ⟨dx, dy, qx, qy, hx, hy, q⟩ := h
  obtain ⟨as, ra⟩ := Rep.reads I dx x v qx rx (Bool.and_eq_true_iff.mp hx).1
  obtain ⟨bs, rb⟩ := Rep.reads I dy y u qy ry (Bool.and_eq_true_iff.mp hy).1
  exact SeqAt.compareEq_shaped ra rb hx hy hu ⟨.bl _, H, I, rfl, q⟩
theorem op_neP (hu : X.A.units + 64 < cLine) : OpR X (compareOp .NotEq) (rPy X true) := by
  intro pins s σ H x y v u Q I rx ry h
  obtain ⟨dx, dy, qx, qy, hx, hy, q⟩ := h
  obtain ⟨as, ra⟩ := Rep.reads I dx x v qx rx (Bool.and_eq_true_iff.mp hx).1
  obtain ⟨bs, rb⟩ := Rep.reads I dy y u qy ry (Bool.and_eq_true_iff.mp hy).1
  exact SeqAt.compareNe_shaped ra rb hx hy hu ⟨.bl _, H, I, rfl, q⟩
def eqX (x y : Dv) : Option (Rs Dv) := match eqS x y with
  | some b => some (.ok (.bl b))
  | none => if okP x && okP y then some (.ok (.bl (PyData.eqv (toPy x) (toPy y)))) else none
def neX (x y : Dv) : Option (Rs Dv) := match eqS x y with
  | some b => some (.ok (.bl (!b)))
  | none => if okP x && okP y then some (.ok (.bl (!PyData.eqv (toPy x) (toPy y)))) else none
def rEqX (X : Cx) : R2 := fun x y H Q => rEq x y H Q ∨ rPy X false x y H Q
def rNeX (X : Cx) : R2 := fun x y H Q => rNe x y H Q ∨ rPy X true x y H Q
theorem o_eqX (hu : X.A.units + 64 < cLine) : OpR X (compareOp .Eq) (rEqX X) := op_eq.or (op_eqP hu)
theorem o_neX (hu : X.A.units + 64 < cLine) : OpR X (compareOp .NotEq) (rNeX X) := op_ne.or (op_neP hu)
theorem g_eqX : GOp X (rEqX X) eqX := by
  intro dx dy x y H Q rx ry o
  unfold eqX at o
  split at o
  · rename_i b hb
    obtain ⟨h1, h2⟩ := eqS_ok rx ry hb
    exact .inl ⟨h1, by rw [h2]; exact o _ H (.refl H) rfl⟩
  · split at o
    · rename_i hc
      rw [Bool.and_eq_true] at hc
      exact .inr ⟨dx, dy, rx, ry, hc.1, hc.2, o _ H (.refl H) rfl⟩
    · exact o.elim
theorem g_neX : GOp X (rNeX X) neX := by
  intro dx dy x y H Q rx ry o
  unfold neX at o
  split at o
  · rename_i b hb
    obtain ⟨h1, h2⟩ := eqS_ok rx ry hb
    exact .inl ⟨h1, by rw [h2]; exact o _ H (.refl H) rfl⟩
  · split at o
    · rename_i hc
      rw [Bool.and_eq_true] at hc
      exact .inr ⟨dx, dy, rx, ry, hc.1, hc.2, o _ H (.refl H) rfl⟩
    · exact o.elim
/-! ### < of texts -/
def ltX : Dv → Dv → Option (Rs Dv)
  | .int i, .int j => some (.ok (.bl (decide (i < j))))
  | .str x, .str y => some (.ok (.bl (decide (x.cps.toList < y.cps.toList))))
  | _, _ => none
def rLtX : R2 := fun x y H Q => rI0 (fun i j => .bl (decide (i < j))) x y H Q ∨ ∃ i j, x = .str i ∧ y = .str j ∧ Q (.bl (decide (i.cps.toList < j.cps.toList))) H
theorem o_ltX : OpR X (compareOp .Lt) rLtX := op_lt.or op_lt_str
theorem g_ltX : GOp X rLtX ltX := by
  intro dx dy x y H Q rx ry o
  cases dx <;> cases dy <;> try exact (show False from o).elim
  · rename_i i j
    exact .inl ⟨i, j, rx, ry, o _ H (.refl H) rfl⟩
  · rename_i i j
    exact .inr ⟨i, j, rx, ry, o _ H (.refl H) rfl⟩
/-! ### split, join, partition -/
theorem vals_strs : ∀ (ps : List Str) (k : Nat), Vals (ps.map V.str) (strsFrom k ps)
  | [], _ => .nil
  | p :: ps, k => .cons ⟨k, rfl⟩ (vals_strs ps (k + 1))
theorem reps_strs {K : PySem.W.Frag} {H : Hp} : ∀ ps : List Str, Reps K H (ps.map Dv.str) (ps.map V.str)
  | [] => rfl
  | p :: ps => ⟨.str p, ps.map V.str, rfl, rfl, reps_strs ps⟩
def splitD : Str → List Dv → Option (Rs Dv)
  | x, [.str y] => if y.length ≠ 0 ∧ x.length ≤ 100000 ∧ (Txt.split x y).length ≤ 100000 then some (.ok (.lst ((Txt.split x y).map Dv.str))) else none
  | _, _ => none
def rSplit : V → List V → Hp → VK → Prop := fun x xs H Q => ∃ i j, x = .str i ∧ xs = [.str j] ∧ j.length ≠ 0 ∧ i.length ≤ sizeLine ∧ (Txt.split i j).length ≤ sizeLine ∧ ∀ p, H p = none → Q (.ref p) (upd H p (.lst ((Txt.split i j).map V.str)))
theorem mt_split : MtR X "str.split" rSplit := by
  intro pins s σ H x xs v us Q I rx rs h
  obtain ⟨i, j, rfl, rfl, hj, hi, hn, q⟩ := h
  obtain ⟨t, rfl⟩ := rx
  obtain ⟨u, rfl, ru⟩ := vals1 rs
  obtain ⟨t', rfl⟩ := ru
  have hy : (j.length == 0) = false := by simpa using hj
  have one : ∀ {s' : Shared}, s' = { s with heap := s.heap.push { cls := .type "list", data := .seq [Value.str i t].toArray } } → Txt.split i j = [i] → EP X pins σ Q (.ref s.heap.objs.size) s' := fun e e2 => by
    subst e
    rw [e2] at q
    exact ⟨.ref _, _, I.lnew (its := [Value.str i t]) (ys := [V.str i]) (t' := s.toks) (.cons ⟨t, rfl⟩ .nil) (by show 1 ≤ sizeLine; decide), rfl, q _ I.fresh⟩
  cases h1 : (decide (i.length < j.length) || decide (Builtin.Str.strKind i < Builtin.Str.strKind j))
  · cases hf : (Builtin.Str.occurrences i j 0 i.length (i.length + 1)).isEmpty
    · have e2 : Txt.split i j = Builtin.Str.partsBetween i (Builtin.Str.occurrences i j 0 i.length (i.length + 1)) j.length := by
        unfold Txt.split
        rw [if_neg (by rw [h1]; exact Bool.false_ne_true), if_neg (by rw [hf]; exact Bool.false_ne_true)]
      rw [e2] at q hn
      refine call_meets F.slot_str_split (typeIs_str _ _ _) F.entry_str_split (F.args_str_split_2 _ _) (meets_str_split_sep i j t t' h1 hy hf hi hn) ?_
      exact ⟨.ref _, _, I.lnew (t' := _) (vals_strs _ _) (by rw [List.length_map]; exact hn), rfl, q _ I.fresh⟩
    · refine call_meets F.slot_str_split (typeIs_str _ _ _) F.entry_str_split (F.args_str_split_2 _ _) (meets_str_split_not_found i j t t' h1 hy hf) ?_
      exact one rfl (by unfold Txt.split; rw [if_neg (by rw [h1]; exact Bool.false_ne_true), if_pos hf])
  · refine call_meets F.slot_str_split (typeIs_str _ _ _) F.entry_str_split (F.args_str_split_2 _ _) (meets_str_split_cannot_occur i j t t' h1) ?_
    exact one rfl (by unfold Txt.split; rw [if_pos h1])
theorem g_split (i : Str) (ds : List Dv) (vs : List V) (H : Hp) (Q : VK) (rs : Reps X.K H ds vs) (o : Out X H (splitD i ds) Q) : rSplit (.str i) vs H Q := by
  unfold splitD at o
  split at o
  · rename_i j
    split at o
    · rename_i hc
      obtain ⟨w, rfl, rw'⟩ := reps1 rs
      cases (show w = .str j from rw')
      exact ⟨i, j, rfl, rfl, hc.1, le_line hc.2.1, le_line hc.2.2, fun p hp => o _ _ (same_new hp _) ⟨p, _, rfl, upd_same, reps_strs _⟩⟩
    · exact o.elim
  · exact o.elim
def texts : List Dv → Option (List Str)
  | [] => some []
  | .str x :: r => (match texts r with | some xs => some (x :: xs) | none => none)
  | _ => none
def joinD : Str → List Dv → Option (Rs Dv)
  | x, [.lst ds] => (match texts ds with
    | some ts => if JoinOk x ts = true then some (.ok (.str (Txt.join x ts))) else none
    | none => none)
  | _, _ => none
def rJoin (K : PySem.W.Frag) : V → List V → Hp → VK → Prop := fun x xs H Q => ∃ i a vs ds ts, x = .str i ∧ xs = [.ref a] ∧ H a = some (.lst vs) ∧ Reps K H ds vs ∧ texts ds = some ts ∧ JoinOk i ts = true ∧ Q (.str (Txt.join i ts)) H
theorem texts_vals {K : PySem.W.Frag} {H : Hp} : ∀ {ds : List Dv} {vs : List V} {us : List Value} {ts : List Str}, Reps K H ds vs → Vals vs us → texts ds = some ts → ∃ l : List (Str × Tok), us = strValues l ∧ l.map (·.1) = ts
  | [], vs, us, ts, r, q, h => by
    cases (show vs = [] from r)
    cases q
    cases h
    exact ⟨[], rfl, rfl⟩
  | d :: ds, vs, us, ts, r, q, h => by
    obtain ⟨v, ws, rfl, r1, r2⟩ : ∃ v us, vs = v :: us ∧ Rep K H d v ∧ Reps K H ds us := r
    cases q with
    | cons q1 q2 =>
      cases d <;> try (cases h; done)
      rename_i b
      simp only [texts] at h
      cases hb : texts ds with
      | none => rw [hb] at h; cases h
      | some bs' =>
        rw [hb] at h
        cases h
        cases (show v = .str b from r1)
        obtain ⟨t, rfl⟩ := q1
        obtain ⟨l, e1, e2⟩ := texts_vals r2 q2 hb
        exact ⟨(b, t) :: l, by rw [e1]; rfl, by rw [List.map_cons, e2]⟩
theorem mt_join : MtR X "str.join" (rJoin X.K) := by
  intro pins s σ H x xs v us Q I rx rs h
  obtain ⟨i, a, vs, ds, ts, rfl, rfl, h1, h2, h3, h4, q⟩ := h
  obtain ⟨t, rfl⟩ := rx
  obtain ⟨u, rfl, ru⟩ := vals1 rs
  cases ru
  obtain ⟨z, its, n, rv, hl, e⟩ := I.lstM h1
  obtain ⟨l, e1, e2⟩ := texts_vals h2 rv h3
  subst e1
  exact SC.join ⟨_, e, rfl, _, rfl⟩ e2 h4 fun t' k => ⟨.str _, H, I.tok _, ⟨_, rfl⟩, q⟩
theorem g_join (i : Str) (ds : List Dv) (vs : List V) (H : Hp) (Q : VK) (rs : Reps X.K H ds vs) (o : Out X H (joinD i ds) Q) : rJoin X.K (.str i) vs H Q := by
  unfold joinD at o
  split at o
  · rename_i es
    split at o
    · rename_i ts ht
      split at o
      · rename_i hj
        obtain ⟨w, rfl, rw'⟩ := reps1 rs
        obtain ⟨a, xs, rfl, h1, h2⟩ := rw'.lstE
        exact ⟨i, a, xs, es, ts, rfl, rfl, h1, h2, ht, hj, o _ H (.refl H) rfl⟩
      · exact o.elim
    · exact o.elim
  · exact o.elim
def partD : Str → List Dv → Option (Rs Dv)
  | x, [.str y] => if y.length ≠ 0 ∧ x.length ≤ 100000 then some (.ok (.tup [.str (Txt.partition x y).1, .str (Txt.partition x y).2.1, .str (Txt.partition x y).2.2])) else none
  | _, _ => none
def rPart : V → List V → Hp → VK → Prop := fun x xs H Q => ∃ i j, x = .str i ∧ xs = [.str j] ∧ j.length ≠ 0 ∧ i.length ≤ sizeLine ∧ ∀ p, H p = none → Q (.ref p) (upd H p (.tup [.str (Txt.partition i j).1, .str (Txt.partition i j).2.1, .str (Txt.partition i j).2.2]))
theorem mt_part : MtR X "str.partition" rPart := by
  intro pins s σ H x xs v us Q I rx rs h
  obtain ⟨i, j, rfl, rfl, hj, hi, q⟩ := h
  obtain ⟨t, rfl⟩ := rx
  obtain ⟨u, rfl, ru⟩ := vals1 rs
  obtain ⟨t', rfl⟩ := ru
  have hy : (j.length == 0) = false := by simpa using hj
  have fin : ∀ (a b c : Str) (ta tb tc : Tok) (k : Nat), Txt.partition i j = (a, b, c) → EP X pins σ Q (.ref s.heap.objs.size) { s with toks := k, heap := s.heap.push { cls := .type "tuple", data := .seq [Value.str a ta, .str b tb, .str c tc].toArray } } := fun a b c ta tb tc k e => by
    rw [e] at q
    refine ⟨.ref _, _, I.laid (t' := k) (fun b u e => Heap.get?_push_of_some _ e) (Nat.le_refl _) ?_, rfl, q _ I.fresh⟩
    exact ⟨by show 3 ≤ sizeLine; decide, [Value.str a ta, .str b tb, .str c tc], .cons ⟨_, rfl⟩ (.cons ⟨_, rfl⟩ (.cons ⟨_, rfl⟩ .nil)), ⟨_, Heap.get?_push_size _ rfl, rfl, _, rfl⟩⟩
  refine call_meets F.slot_str_partition (typeIs_str _ _ _) F.entry_str_partition (F.args_str_partition_2 _ _) (meets_str_partition i j t t' hy hi) ?_
  cases ho : Builtin.Str.occurrences i j 0 i.length 1 with
  | nil => exact fin _ _ _ _ _ _ _ (by unfold Txt.partition; rw [ho])
  | cons k r => exact fin _ _ _ _ _ _ _ (by unfold Txt.partition; rw [ho])
theorem g_part (i : Str) (ds : List Dv) (vs : List V) (H : Hp) (Q : VK) (rs : Reps X.K H ds vs) (o : Out X H (partD i ds) Q) : rPart (.str i) vs H Q := by
  unfold partD at o
  split at o
  · rename_i j
    split at o
    · rename_i hc
      obtain ⟨w, rfl, rw'⟩ := reps1 rs
      cases (show w = .str j from rw')
      exact ⟨i, j, rfl, rfl, hc.1, le_line hc.2, fun p hp => o _ _ (same_new hp _) ⟨p, _, rfl, upd_same, ⟨_, _, rfl, rfl, _, _, rfl, rfl, _, _, rfl, rfl, rfl⟩⟩⟩
    · exact o.elim
  · exact o.elim
/-! ### tuple(list) -/
variable {p pos : Pos} {e : Expr} {es : List Expr} {ga : FnA}
def tupleD : List Dv → Option (Rs Dv)
  | [.lst xs] => some (.ok (.tup xs))
  | [.tup xs] => some (.ok (.tup xs))
  | _ => none
theorem fe_tuple (hg : Gl X "tuple") (hm : X.mg "tuple" = none) (ha : FA X (e :: es) ga) (he : starEach (e :: es) X.env = (false, eval e X.env) :: starEach es X.env := by kernel_rfl) (hpl : (backTo pos (starEach es X.env)).any (·.1) = false := by kernel_rfl) : FE X (.Call (.Name "tuple" p) (e :: es) [] pos) (fB1 tupleD ga) :=
  fe_of (pe_callTy call_tuple_of hg hm (by decide +kernel) ha.h (by decide) (by decide) he hpl) fun σ H Q ρ E o => ⟨ρ, E, OutA.bind o fun ds vs H1 e1 rs o1 => by
    unfold tupleD at o1
    split at o1
    · rename_i xs
      obtain ⟨v, rfl, r⟩ := reps1 rs
      obtain ⟨a, ws, rfl, h1, h2⟩ := r.lstE
      exact ⟨a, ws, rfl, .inl ⟨SqL.of h1, fun l hl => o1 _ _ (same_new hl _) ⟨l, ws, rfl, upd_same, Reps.mono (same_new hl _) _ _ h2⟩⟩⟩
    · rename_i xs
      obtain ⟨v, rfl, r⟩ := reps1 rs
      obtain ⟨a, ws, rfl, h1, h2⟩ := r.tupE
      exact ⟨a, ws, rfl, .inr ⟨SqT.of h1, o1 _ H1 (.refl H1) ⟨a, ws, rfl, h1, h2⟩⟩⟩
    · exact o1.elim⟩
end
end FD
namespace FD
open PySem PySem.Spec PyProof.Rows L2
section
variable {X : Cx} {apos cpos : Pos} {e o : Expr} {es : List Expr} {ga : FnA} {fo : FnE}
/-! ### list.index -/
def ixOf (x : Dv) : List Dv → Nat → Option Nat
  | [], _ => none
  | y :: ys, k => if eqF y x then some k else ixOf x ys (k + 1)
def idxD : List Dv → List Dv → Option (Rs Dv)
  | xs, [x] => if flatD x && xs.all flatD && decide (xs.length ≤ 100000) then (match ixOf x xs 0 with | some j => some (.ok (.int j)) | none => none) else none
  | _, _ => none
theorem ixOf_ok {K : PySem.W.Frag} {H : Hp} {x : Dv} {u : V} (q : Rep K H x u) (hx : flatD x = true) : ∀ {xs : List Dv} {vs : List V} {k j : Nat}, Reps K H xs vs → xs.all flatD = true → ixOf x xs k = some j →
    k ≤ j ∧ (∃ v, vs[j - k]? = some v ∧ eqV v u = true) ∧ ∀ (m : Nat) v, m < j - k → vs[m]? = some v → eqV v u = false
  | [], vs, k, j, r, _, h => by cases h
  | y :: ys, vs, k, j, r, hf, h => by
    obtain ⟨v, ws, rfl, r1, r2⟩ : ∃ v us, vs = v :: us ∧ Rep K H y v ∧ Reps K H ys us := r
    rw [List.all_cons, Bool.and_eq_true] at hf
    unfold ixOf at h
    have e1 := eqF_ok r1 q hf.1 hx
    split at h
    · rename_i hh
      cases h
      refine ⟨Nat.le_refl _, ⟨v, by simp, by rw [e1]; exact hh⟩, fun m w hm => by omega⟩
    · rename_i hh
      obtain ⟨a, ⟨w, b1, b2⟩, c⟩ := ixOf_ok q hx r2 hf.2 h
      refine ⟨by omega, ⟨w, ?_, b2⟩, fun m z hm hz => ?_⟩
      · have e : j - k = (j - (k + 1)) + 1 := by omega
        rw [e, List.getElem?_cons_succ]
        exact b1
      · cases m with
        | zero =>
          have : z = v := by simpa using hz.symm
          subst this
          rw [e1]
          simpa using hh
        | succ m => exact c m z (by omega) (by simpa using hz)
def rIndex : V → List V → Hp → VK → Prop := fun x xs H Q => ∃ a vs y j, x = .ref a ∧ xs = [y] ∧ H a = some (.lst vs) ∧ flatV y = true ∧ vs.all flatV = true ∧ vs.length ≤ 100000 ∧ (∃ v, vs[j]? = some v ∧ eqV v y = true) ∧ (∀ (m : Nat) v, m < j → vs[m]? = some v → eqV v y = false) ∧ Q (.int j) H
theorem eqU_at {y : V} {vs : List V} {its : List Value} (r : Vals vs its) (f : vs.all flatV = true) {m : Nat} {v : V} (h : vs[m]? = some v) : ∃ hm : m < its.length, eqU y its[m] = eqV v y := by
  obtain ⟨u, hu, ru⟩ := r.get h
  obtain ⟨hm, e⟩ := List.getElem?_eq_some_iff.mp hu
  refine ⟨hm, ?_⟩
  rw [e]
  exact eqU_of ru (List.all_eq_true.mp f v (List.mem_of_getElem? h))
theorem mt_index : MtR X "list.index" rIndex := by
  intro pins s σ H x xs v us Q I rx rs h
  obtain ⟨a, vs, y, j, rfl, rfl, h1, fy, fv, hz, ⟨w, hw, hit⟩, hno, q⟩ := h
  cases rx
  obtain ⟨u, rfl, ru⟩ := vals1 rs
  obtain ⟨z, its, n, rv, hl, e⟩ := I.lstM h1
  obtain ⟨hj, ej⟩ := eqU_at (y := y) rv fv hw
  refine call_meets PySem.F.slot_list_index ⟨_, e, rfl⟩ PySem.F.entry_list_index (PySem.F.args_list_index_2 _ _) (SeqAt.list_indexAt a its.toArray n none #[] u (eqU y) j (by simpa using hj) (by omega) (by simpa [ej] using hit) fun m hm hlt => ?_) ⟨e, fun t ht => mem_eqAt ru fy rv fv t (by simpa using ht), ⟨.int j, H, I.tok _, ⟨_, rfl⟩, q⟩⟩
  have hm' : m < vs.length := by rw [rv.length]; simpa using hm
  obtain ⟨hm2, em⟩ := eqU_at (y := y) rv fv (List.getElem?_eq_getElem hm')
  have := hno m vs[m] hlt (List.getElem?_eq_getElem hm')
  simpa [em] using this
def fML (g : List Dv → List Dv → Option (Rs Dv)) (fo : FnE) (ga : FnA) : FnE := fun ρ => bnd (fo ρ) fun x => match x with
  | .lst i => bnd (ga ρ) fun xs => g i xs
  | _ => none
theorem fe_index (ho : FE X o fo) (ha : FA X (e :: es) ga)
    (hbase : attributeBase o "index" X.env (eval o X.env) = eval o X.env := by kernel_rfl)
    (hfew : ((backTo cpos (starEach (e :: es) X.env)).all (fun x => !x.1) && (backToKw cpos (keywordEach [] X.env)).all (fun x => x.1.isSome)
      && decide ((e :: es).length + ([] : List Keyword).length + (if ([] : List Keyword).isEmpty then 0 else 1) < 30)) = true := by kernel_rfl)
    (hline : (apos.endLine == cpos.line) = true := by kernel_rfl) (hs : starEach (e :: es) X.env = (false, eval e X.env) :: starEach es X.env := by kernel_rfl) (hplain : (backTo cpos (starEach es X.env)).any (·.1) = false := by kernel_rfl) :
    FE X (.Call (.Attribute o "index" apos) (e :: es) [] cpos) (fML idxD fo ga) :=
  fe_of (pe_bm PySem.F.plainAttrs_list PySem.F.slot_list_index PySem.F.type_list_index mt_index ho.h ha.h hbase hfew hline hs hplain) fun σ H Q ρ E o => ⟨ρ, E, Out.bind o fun d v H1 e1 rd o1 => by
    cases d <;> try exact (show False from o1).elim
    rename_i ds
    obtain ⟨a, vs, rfl, h1, h2⟩ := rd.lstE
    refine ⟨.inl ⟨rfl, vs, SqL.of h1⟩, ρ, E.mono e1, OutA.bind o1 fun es ws H2 e2 rs o2 => ?_⟩
    unfold idxD at o2
    split at o2
    · rename_i x
      split at o2
      · rename_i hc
        rw [Bool.and_eq_true, Bool.and_eq_true] at hc
        split at o2
        · rename_i j hj
          obtain ⟨w, rfl, rw'⟩ := reps1 rs
          have h2' := Reps.mono e2 _ _ h2
          obtain ⟨c1, c2, c3⟩ := ixOf_ok rw' hc.1.1 h2' hc.1.2 hj
          refine ⟨a, vs, w, j, rfl, rfl, e2 _ _ h1, flat_ok rw' hc.1.1, flats_ok h2' hc.1.2, by rw [h2.length]; exact of_decide_eq_true hc.2, by simpa using c2, by simpa using c3, o2 _ H2 (.refl H2) rfl⟩
        · exact o2.elim
      · exact o2.elim
    · exact o2.elim⟩
end
end FD
namespace FD
open PySem PySem.Spec PyProof.Rows L2
/-! ### targets: a name, a pair of names -/
structure FG (X : Cx) (tg : Expr) (b : Dv → Ev → Option Ev) : Prop where
  h : ∀ (pins : List (Addr × Obj)) (s : Shared) (σ : L2.St) (H : Hp) (v : V) (u : Value) (d : Dv) (ρ ρ' : Ev), Inv X pins σ H s → RelV v u → Rep X.K H d v → Envs X.K H σ ρ → b d ρ = some ρ' →
    wpAny (model X.prog X.w) X.A (assign tg X.env u) (fun _ s' => ∃ σ' H', Inv X pins σ' H' s' ∧ Same H H' ∧ Envs X.K H' σ' ρ') X.xe s
def gN (i : Nat) : Dv → Ev → Option Ev := fun d ρ => some (ρ.set i (some d))
def gP (i j : Nat) : Dv → Ev → Option Ev := fun d ρ => match d with
  | .tup [a, c] => some ((ρ.set i (some a)).set j (some c))
  | _ => none
section
variable {X : Cx} {pos p1 p2 : Pos}
theorem fg_name (i : Nat) {x : Str} (hN : X.N.Nodup) (hi : X.N[i]? = some x) (hx : Loc X.env.scope x) (hf : X.fn x = true ∨ X.env.scope.names.lookup x = some .local) : FG X (.Name x pos) (gN i) :=
  ⟨fun pins s σ H v u d ρ ρ' I r rd E e => by
    cases e
    exact thn (pg_name hN hi hx hf pins s σ H v u (fun σ' H' => H' = H ∧ σ' = σ.set i (some v)) I r ⟨rfl, rfl⟩) fun _ s' ⟨σ', H', I', e1, e2⟩ => by
      subst e1 e2
      exact ⟨_, _, I', .refl _, E.set rd⟩⟩
theorem fg_pair (i j : Nat) {x y : Str} {k : Nat} (hc : X.calm = true) (hN : X.N.Nodup) (hi : X.N[i]? = some x) (hx : Loc X.env.scope x) (hf : X.fn x = true ∨ X.env.scope.names.lookup x = some .local)
    (hj : X.N[j]? = some y) (hy : Loc X.env.scope y) (hg : X.fn y = true ∨ X.env.scope.names.lookup y = some .local)
    (hs1 : (assignEach [.Name x p1, .Name y p2] X.env).map (·.2) = assign (.Name x p1) X.env :: (assignEach [.Name y p2] X.env).map (·.2) := by kernel_rfl) (hs2 : (assignEach [.Name y p2] X.env).map (·.2) = assign (.Name y p2) X.env :: (assignEach [] X.env).map (·.2) := by kernel_rfl)
    (hn : (assignEach [.Name x p1, .Name y p2] X.env).length = 2 := by kernel_rfl) (hst : (assignEach [.Name x p1, .Name y p2] X.env).findIdx? (·.1) = none := by kernel_rfl) : FG X (.Tuple [.Name x p1, .Name y p2] k pos) (gP i j) :=
  ⟨fun pins s σ H v u d ρ ρ' I r rd E e => by
    unfold gP at e
    split at e
    · rename_i a c
      cases e
      obtain ⟨ad, xs, rfl, h1, h2⟩ := rd.tupE
      obtain ⟨va, vc, rfl, ra, rc⟩ := reps2 h2
      refine thn (pg_tup (n := 2) hc (pgs_cons (pg_name (i := i) hN hi hx hf) (pgs_cons (pg_name (i := j) hN hj hy hg) pgs_nil hs2) hs1) hn hst pins s σ H _ u (fun σ' H' => H' = H ∧ σ' = (σ.set i (some va)).set j (some vc)) I r ⟨ad, _, rfl, SqT.of h1, rfl, va, [vc], rfl, vc, [], rfl, rfl, rfl, rfl⟩) fun _ s' ⟨σ', H', I', e1, e2⟩ => ?_
      subst e1 e2
      exact ⟨_, _, I', .refl _, (E.set ra).set rc⟩
    · cases e⟩
end
/-! ### sources whose items may be made as they come -/
structure WkG (K : PySem.W.Frag) (J : It) (ds : List Dv) (H0 : Hp) : Prop where
  go : ∀ i H, Same H0 H → i < ds.length → J.go i H
  stop : ∀ H, Same H0 H → J.stop ds.length H
  yld : ∀ i H x H', Same H0 H → i < ds.length → J.yld i H x H' → Same H H' ∧ ∃ d, ds[i]? = some d ∧ Rep K H' d x
theorem Wk.toG {K : PySem.W.Frag} {J : It} {ds : List Dv} {H0 : Hp} (w : Wk K J ds H0) : WkG K J ds H0 :=
  ⟨w.go, w.stop, fun i H x H' e hi y => by
    obtain ⟨rfl, d, h1, h2⟩ := w.yld i H x H' e hi y
    exact ⟨.refl _, d, h1, h2⟩⟩
def OutG (X : Cx) (H : Hp) (o : Option (Rs (List Dv))) (R : It → Hp → Prop) : Prop := match o with
  | none => False
  | some (.exc c) => XW X c H
  | some (.ok ds) => ∀ J H', Same H H' → WkG X.K J ds H' → R J H'
theorem OutG.mono {X : Cx} {H H' : Hp} {R : It → Hp → Prop} (e : Same H H') : ∀ {o : Option (Rs (List Dv))}, OutG X H o R → OutG X H' o R
  | none, h => h
  | some (.exc _), h => XW.mono h e
  | some (.ok _), h => fun v H1 e1 r => h v H1 (e.trans e1) r
structure FIG (X : Cx) (tg iter : Expr) (f : FnA) : Prop where
  h : PI X tg iter fun σ H R => ∃ ρ, Envs X.K H σ ρ ∧ OutG X H (f ρ) R
theorem FI.toG {X : Cx} {tg iter : Expr} {f : FnA} (h : FI X tg iter f) : FIG X tg iter f :=
  ⟨fun pins s σ H R I ⟨ρ, E, o⟩ => h.h pins s σ H R I ⟨ρ, E, by
    match hf : f ρ, o with
    | some (.exc c), o => exact o
    | some (.ok ds), o => exact fun J H' e w => o J H' e w.toG⟩⟩
/-! ### the block once more, for any target, with any end -/
def capG (m : Nat) (cs : List (Str × Nat)) (ρ : Ev) : Ev := List.replicate m none ++ cs.map fun c => (ρ[c.2]?).join
def mapG (b : Dv → Ev → Option Ev) (tst : Option FnB) (elt : FnE) (cap : Ev) : List Dv → Option (List Dv)
  | [] => some []
  | d :: ds => match b d cap with
    | none => none
    | some ρ => match (match tst with | none => (some (.ok true) : Option (Rs Bool)) | some t => t ρ) with
      | some (.ok true) => (match elt ρ with
        | some (.ok y) => (match mapG b tst elt cap ds with | some ys => some (y :: ys) | none => none)
        | _ => none)
      | some (.ok false) => mapG b tst elt cap ds
      | _ => none

structure CompOkG (osc scope : Scope) (cs : List (Str × Nat)) (N : List Str) : Prop where
  kind : scope.kind = .function
  cell : ∀ y ∈ scope.names, y.2 ≠ .cell
  names : ∀ y ∈ scope.names, y.2 = .local → scope.names.lookup y.1 = some .local
  free : ∀ y ∈ scope.names, y.2 = .free → osc.names.lookup y.1 = some .cell ∨ osc.names.lookup y.1 = some .free
  caps : ∀ c ∈ cs, N[c.2]? = some c.1 ∧ scope.names.lookup c.1 = some .free
def capGS (m : Nat) (cs : List (Str × Nat)) (σ : L2.St) : L2.St := List.replicate m none ++ cs.map fun c => (σ[c.2]?).join
theorem repl_none {α : Type} {m i : Nat} {v : α} {l : List (Option α)} (h : (List.replicate m (none : Option α) ++ l)[i]? = some (some v)) : ∃ k, i = m + k ∧ l[k]? = some (some v) := by
  by_cases hi : i < m
  · rw [List.getElem?_append_left (by simpa using hi), List.getElem?_replicate, if_pos hi] at h
    cases h
  · refine ⟨i - m, by omega, ?_⟩
    rw [List.getElem?_append_right (by simpa using hi)] at h
    simpa using h
theorem envs_capG {K : PySem.W.Frag} {H : Hp} {σ : L2.St} {ρ : Ev} (m : Nat) (cs : List (Str × Nat)) (E : Envs K H σ ρ) : Envs K H (capGS m cs σ) (capG m cs ρ) := by
  refine ⟨by simp [capGS, capG], fun i d h => ?_⟩
  obtain ⟨k, rfl, hk⟩ := repl_none h
  rw [List.getElem?_map] at hk
  cases hc : cs[k]? with
  | none => rw [hc] at hk; simp at hk
  | some c =>
    rw [hc] at hk
    simp only [Option.map_some, Option.some.injEq] at hk
    have h2 : ρ[c.2]? = some (some d) := by
      cases q : ρ[c.2]? with
      | none => rw [q] at hk; simp at hk
      | some o => rw [q] at hk; simp at hk; rw [hk]
    obtain ⟨v, h3, h4⟩ := E.at' c.2 d h2
    refine ⟨v, ?_, h4⟩
    unfold capGS
    rw [List.getElem?_append_right (by simp)]
    simp only [List.length_replicate, Nat.add_sub_cancel_left, List.getElem?_map, hc, Option.map_some, h3]
    rfl
theorem comp_invG {X : Cx} {pins : List (Addr × Obj)} {σ : L2.St} {H : Hp} {s : Shared} {scope : Scope} {ns : List Str} {cs : List (Str × Nat)} {fp : List Addr} {h₁ : Heap} {C : Addr} {t' : Nat} (ok : CompOkG X.env.scope scope cs X.N) (I : Inv X pins σ H s) (hfp : ∀ b ∈ fp, FpOk X pins H b) (hlt : ∀ b ∈ fp, b < s.heap.objs.size)
    (hC : s.heap.objs.size ≤ C) (hns : h₁.Ns C fun _ => none) (old : ∀ b o, s.heap.get? b = some o → h₁.get? b = some o) :
    Inv (compCx X (ns ++ cs.map (·.1)) scope C s H fp) [] (capGS ns.length cs σ) H { s with heap := h₁, toks := t' } := by
  have cl1 : ∀ n c, (clOf scope.names X.env []).lookup n = some c → X.env.cells.lookup n = some c := fun n c e => by
    rcases clOf_sound _ _ e with q | ⟨q1, q2⟩
    · simp at q
    · obtain ⟨c', e'⟩ := I.ok.has n (ok.free _ q1 rfl)
      rw [e'] at q2
      rw [e', q2] <;> rfl
  have kf : ∀ n k, (relabel scope X.env).names.lookup n = some k → (k = .cell ∨ k = .free) → (n, NameKind.free) ∈ scope.names := fun n k h hk => by
    rcases relabel_kind h with q | ⟨_, q⟩
    · rcases hk with rfl | rfl
      · exact absurd rfl (ok.cell _ q)
      · exact q
    · exact q
  refine ⟨⟨I.ok.mod, ok.kind, I.ok.glob, I.ok.blt, hC, fun y z c e1 e2 => I.ok.inj y z c (cl1 y c e1) (cl1 z c e2), fun y hy => ?_, fun y c h => Bool.noConfusion h, I.ok.hd, I.ok.frames, .inl rfl, fun b hb => ⟨fun z => ?_, fun y c e => (hfp b hb).2.2.2.2.1 y c (cl1 y c e)⟩, I.bs, Nat.le_trans I.ok.bsz I.sz, fun b o e hb => ?_, fun b hb z => ?_, I.stack, I.stkFree⟩,
    rfl, I.bare, Un.kept old, ⟨_, hns, fun i y v h1 h2 h3 => ?_⟩, fun y c e => ?_, I.hok.fresh hC, fun y c e => I.freeC y c (cl1 y c e), fun p hp => absurd (show p ∈ ([] : List (Addr × Obj)) from hp) (by simp), I.hok.kept old, by simp [capGS, compCx]⟩
  · have hm : (y, NameKind.free) ∈ scope.names := by
      rcases hy with hy | hy
      · exact kf y _ hy (.inl rfl)
      · exact kf y _ hy (.inr rfl)
    exact Option.isSome_iff_exists.mp (clOf_has _ _ hm)
  · have := hlt b hb
    rw [z] at this
    exact absurd (Nat.lt_of_lt_of_le this hC) (Nat.lt_irrefl _)
  · rcases (hfp b hb).2.2.2.1 with z | z
    · exact I.ok.noex b o e z
    · exact absurd (Nat.lt_of_lt_of_le (Heap.lt_size e) (Nat.le_trans I.ok.bsz z)) (Nat.lt_irrefl _)
  · rcases List.mem_cons.mp (I.stkSub b z) with q | q
    · exact (hfp b hb).2.1 q
    · exact (hfp b hb).2.2.1 q
  · obtain ⟨k, rfl, h4⟩ := repl_none h2
    have h1' : (ns ++ cs.map (·.1))[ns.length + k]? = some y := h1
    rw [List.getElem?_append_right (by simp)] at h1'
    simp only [Nat.add_sub_cancel_left] at h1'
    rw [List.getElem?_map] at h1'
    cases hc : cs[k]? with
    | none => rw [hc] at h1'; simp at h1'
    | some c =>
      rw [hc] at h1'
      have ey : c.1 = y := by simpa using h1'
      subst ey
      rw [List.getElem?_map, hc] at h4
      simp only [Option.map_some, Option.some.injEq] at h4
      have h2' : σ[c.2]? = some (some v) := by
        cases q : σ[c.2]? with
        | none => rw [q] at h4; simp at h4
        | some o => rw [q] at h4; simp at h4; rw [h4]
      obtain ⟨hN, hf⟩ := ok.caps c (List.mem_of_getElem? hc)
      have hv := ok.free _ (lookup_mem hf) rfl
      obtain ⟨mm, _, hl⟩ := I.loc
      obtain ⟨u, r, l⟩ := hl c.2 c.1 v hN h2' (.inr hv)
      refine ⟨u, r, .inr ⟨relabel_free hf, ?_⟩⟩
      rcases l with ⟨l, _⟩ | ⟨_, a, ha, o, ho, hd⟩
      · have l' : X.env.scope.names.lookup c.1 = some .local := l
        rcases hv with z | z
        · rw [l'] at z; cases z
        · rw [l'] at z; cases z
      · obtain ⟨a', ha'⟩ := Option.isSome_iff_exists.mp (clOf_has (env := X.env) scope.names [] (lookup_mem hf))
        have e2 := cl1 _ _ ha'
        rw [ha] at e2
        cases e2
        exact ⟨a, ha', o, old _ _ ho, hd⟩
  · obtain ⟨v, o, ho, hd⟩ := I.cell y c (cl1 y c e)
    exact ⟨v, o, old _ _ ho, hd⟩
/-- a turn of a comprehension's loop, for any target -/
theorem compLoop_any {prog : Program} {w : World} {A : Around} {R : Result → Shared → Prop} {s : Shared} {elt target iter : Expr} {ifs : List Expr} {scope : Scope} {pos : Pos} {it acc : Value} {env : Env} (I : Nat → Shared → Prop)
    (turn : ∀ n s, I n s → wpAny (model prog w) A (pyNext it) (fun r s₁ => match r with
      | none => R (.ok .next) s₁
      | some v => wpAny (model prog w) A (letOwnedTupleGo target it v) (fun _ s₀ => wpAny (model prog w) A (assign target env v) (fun _ s₂ =>
          wpAny (model prog w) A (forIn ifs true fun c r => if r = true then do let ok ← isTrue c env (eval c env); pure (ForInStep.yield ok) else pure (ForInStep.yield r)) (fun ok s₃ =>
            if ok = true then wpAny (model prog w) A (eval elt env) (fun x s₄ =>
              wpAny (model prog w) A (call (.builtin "list.append") [acc, x]) (fun _ s₅ => ∃ m, m < n ∧ I m s₅) (notedBy (model prog w) A env fun e s' => R (.error e) s') s₄) (notedBy (model prog w) A env fun e s' => R (.error e) s') s₃
            else ∃ m, m < n ∧ I m s₃) (notedBy (model prog w) A env fun e s' => R (.error e) s') s₂) (notedBy (model prog w) A env fun e s' => R (.error e) s') s₀) (notedBy (model prog w) A env fun e s' => R (.error e) s') s₁) (notedBy (model prog w) A env fun e s' => R (.error e) s') s)
    (n : Nat) (h : I n s) :
    codeAny (model prog w) A (.compLoop (.ListComp elt [⟨target, iter, ifs, 0⟩] scope pos) 0 it acc env) R s := by
  refine codeAny_loop rfl I (fun n s hI => ?_) n h
  show wpAny _ A ((compTurn (.ListComp elt [⟨target, iter, ifs, 0⟩] scope pos) 0 it acc env).onRaise (fun x => do noteFrame x env; theTreesLotGoes x)) _ _ s
  refine wpAny_noted ?_
  rw [compTurn_list]
  refine wpAny_bind (wpAny_standAt (wpAny_bind (wpAny_mono (turn n s hI) (fun r s₁ h₁ => ?_) fun _ _ h' => h')))
  cases r with
  | none => exact wpAny_pure h₁
  | some v =>
    refine wpAny_bind (wpAny_mono h₁ (fun _ s₀ h₀ => ?_) fun _ _ h' => h')
    refine wpAny_bind (wpAny_mono h₀ (fun _ s₂ h₂ => wpAny_bind (wpAny_mono h₂ (fun ok s₃ h₃ => ?_) fun _ _ h' => h')) fun _ _ h' => h')
    cases ok with
    | false =>
      rw [if_neg Bool.false_ne_true] at h₃
      first
        | exact wpAny_bind (wpAny_pure (wpAny_pure ⟨rfl, h₃⟩))
        | exact wpAny_pure ⟨rfl, h₃⟩
        | (show wpAny _ _ (again _) _ _ _; exact wpAny_pure ⟨rfl, h₃⟩)
    | true =>
      rw [if_pos rfl] at h₃
      first
        | exact wpAny_bind (wpAny_bind (wpAny_mono h₃ (fun x s₄ h₄ => wpAny_bind (wpAny_mono h₄ (fun _ s₅ h₅ => wpAny_pure (wpAny_pure ⟨rfl, h₅⟩)) fun _ _ h' => h')) fun _ _ h' => h'))
        | exact wpAny_bind (wpAny_mono h₃ (fun x s₄ h₄ => wpAny_bind (wpAny_mono h₄ (fun _ s₅ h₅ => wpAny_pure ⟨rfl, h₅⟩) fun _ _ h' => h')) fun _ _ h' => h')
def CompG (X : Cx) (ns : List Str) (cs : List (Str × Nat)) (scope : Scope) (D : Addr) (s2 : Shared) (H2 : Hp) (fp : List Addr) (tn : Nat → Heap → Prop) (ds ys : List Dv) (b : Dv → Ev → Option Ev) (tst : Option FnB) (fe : FnE) (ρ : Ev) (m : Nat) (s' : Shared) : Prop :=
  ∃ i σ' H' es vs its, m = ds.length - i ∧ i ≤ ds.length ∧ Inv (compCx X (ns ++ cs.map (·.1)) scope (D + 1) s2 H2 fp) [] σ' H' s' ∧ Envs X.K H' σ' (capG ns.length cs ρ) ∧ tn i s'.heap ∧ (∀ b ∈ fp, H' b = none) ∧ H' D = none ∧ LAt s'.heap D its ∧ Vals vs its ∧ Reps X.K H' es vs ∧ es.length ≤ i ∧ Same H2 H' ∧
      (match mapG b tst fe (capG ns.length cs ρ) (ds.drop i) with | some zs => es ++ zs = ys | none => False)
set_option maxHeartbeats 4000000 in
theorem comp_core {X : Cx} {pins : List (Addr × Obj)} {σ : L2.St} {tg elt iter : Expr} {ifs : List Expr} {scope : Scope} {pos : Pos} {ns : List Str} {tst : Option FnB} {fe : FnE} {b : Dv → Ev → Option Ev} {js : List Nat} (cs : List (Str × Nat)) (ok : CompOkG X.env.scope scope cs X.N) (hc : X.calm = true)
    (htg : ∀ C s H fp, FG (compCx X (ns ++ cs.map (·.1)) scope C s H fp) tg b) (helt : ∀ C s H fp, FE (compCx X (ns ++ cs.map (·.1)) scope C s H fp) elt fe) (hifs : ∀ C s H fp, FIfs (compCx X (ns ++ cs.map (·.1)) scope C s H fp) ifs tst)
    (hback : ∀ ρ d ρ', b d (capG ns.length cs ρ) = some ρ' → fgt js ρ' = capG ns.length cs ρ)
    {ρ : Ev} {s2 : Shared} {it : Addr} {fp : List Addr} {tn : Nat → Heap → Prop} {J : It} {H2 : Hp} (E : Envs X.K H2 σ ρ) (I2 : Inv X pins σ H2 s2) (T : Turn X.prog X.w X.K tg J fp it tn) (st2 : tn 0 s2.heap) (f2 : ∀ b ∈ fp, FpOk X pins H2 b) {ds ys : List Dv} (wk : WkG X.K J ds H2) (hdl : ds.length ≤ 100000) (hyl : ys.length ≤ 100000) (hm : mapG b tst fe (capG ns.length cs ρ) ds = some ys)
    {RR : Value → Addr → Result → Shared → Prop}
    (hRR : ∀ (D C : Addr) (s6 : Shared) (H5 : Hp) (vs : List V) (m6 : Str → Option Value), Inv X pins σ (upd H5 D (.lst vs)) s6 → H5 D = none → Same H2 H5 → Reps X.K H5 ys vs → s6.heap.Ns C m6 → H5 C = none → C ≠ D → s2.heap.objs.size ≤ C → RR (.ref D) C (.ok .next) s6) :
    wpAny (model X.prog X.w) X.A (newList []) (fun acc s₃ => wpAny (model X.prog X.w) X.A (newFunctionEnv scope X.env.globals (clOf scope.names X.env []) [] X.env.qual none .none (some X.env)) (fun cenv s₄ =>
      codeAny (model X.prog X.w) X.A (.compStart (.ListComp elt [⟨tg, iter, ifs, 0⟩] scope pos) 0 (.ref it) acc { cenv with scope := relabel scope X.env }) (RR acc cenv.locals) s₄) X.xe s₃) X.xe s2 := by
  have fplt : ∀ b ∈ fp, b < s2.heap.objs.size := fun b hb => by
    obtain ⟨o, ho, _⟩ := T.obj _ _ st2 b hb
    exact Heap.lt_size ho
  refine wpAny_newObj_type (wpAny_newFunctionEnv ok.cell (by intro y hy; simp at hy) (fun h₁ hns₁ hsb₁ => ?_) ok.kind)
  dsimp only at hns₁ hsb₁ ⊢
  generalize hH2 : s2.heap.push { cls := .type "list", dict := none, data := .seq ([] : List Value).toArray } = P2 at hns₁ hsb₁ ⊢
  obtain ⟨D, hD⟩ : ∃ D, s2.heap.objs.size = D := ⟨_, rfl⟩
  have hC : P2.objs.size = D + 1 := by rw [← hH2, Heap.size_push, hD]
  rw [hC] at hns₁ hsb₁
  rw [hC, hD]
  have old : ∀ b o, s2.heap.get? b = some o → h₁.get? b = some o := fun b o e => by
    have hb : b < D := by rw [← hD]; exact Heap.lt_size e
    exact hsb₁.extBut b o (ad_ne1 hb) (Heap.get?_push_of_some _ (hH2 ▸ Heap.get?_push_of_some _ e))
  have hacc : LAt h₁ D [] := ⟨0, hsb₁.extBut _ _ ad_s (Heap.get?_push_of_some _ (by rw [← hH2, ← hD]; exact Heap.get?_push_size _ rfl))⟩
  have hns : h₁.Ns (D + 1) fun _ => none := by simpa using hns₁
  have I4 : Inv (compCx X (ns ++ cs.map (·.1)) scope (D + 1) s2 H2 fp) [] (capGS ns.length cs σ) H2 { s2 with heap := h₁, toks := s2.toks + ([] : List (Str × Value)).length } := comp_invG ok I2 f2 fplt (by rw [hD]; exact Nat.le_succ D) hns old
  have E4 : Envs X.K H2 (capGS ns.length cs σ) (capG ns.length cs ρ) := envs_capG ns.length cs E
  have HD : H2 D = none := I2.hok.fresh (Nat.le_of_eq hD)
  have fpD : ∀ b ∈ fp, b ≠ D := fun b hb => ad_ne (hD ▸ fplt b hb)
  have loop : ∀ s4 : Shared, s4 = { s2 with heap := h₁, toks := s2.toks + ([] : List (Str × Value)).length } →
      codeAny (model X.prog X.w) X.A (.compLoop (.ListComp elt [⟨tg, iter, ifs, 0⟩] scope pos) 0 (.ref it) (.ref D) (compEnvC scope (clOf scope.names X.env []) (D + 1) X.env)) (RR (.ref D) (D + 1)) s4 := by
    rintro s4 rfl
    refine compLoop_any (fun k s' => CompG X ns cs scope D s2 H2 fp tn ds ys b tst fe ρ k s') ?_ ds.length ⟨0, capGS ns.length cs σ, H2, [], [], [], by simp, Nat.zero_le _, I4, E4, T.keep _ _ _ st2 fun b hb o e => old b o e, fun b hb => (f2 b hb).1, HD, hacc, .nil, rfl, Nat.le_refl _, .refl H2, by rw [List.drop_zero, hm]; rfl⟩
    rintro k0 s5 ⟨i, σ5, H5, es, vs, its, rfl, hi5, I5, E5, t5, fr5, D5, l5, v5, r5, hel, e5, hz⟩
    have nC : ∀ b ∈ fp, b ≠ D + 1 := fun b hb => ad_ne1 (hD ▸ fplt b hb)
    have DL : D ≠ (compCx X (ns ++ cs.map (·.1)) scope (D + 1) s2 H2 fp).env.locals := ad_s
    have Dcell : ∀ y c, (compCx X (ns ++ cs.map (·.1)) scope (D + 1) s2 H2 fp).env.cells.lookup y = some c → c ≠ D := fun y c e z => by
      obtain ⟨v, o, ho, hd⟩ := I5.cell y c e
      obtain ⟨n, q⟩ := l5
      subst z
      rw [q] at ho
      cases ho
      cases hd
    have Dfs : D ∉ (compCx X (ns ++ cs.map (·.1)) scope (D + 1) s2 H2 fp).fs := fun z => by
      rcases List.mem_cons.mp (I2.stkSub D z) with q | q
      · have z2 := I2.lt
        rw [hD] at z2
        exact ad_ne z2 q.symm
      · exact I2.nofs (Nat.le_of_eq hD) q
    have Dp : FpOk (compCx X (ns ++ cs.map (·.1)) scope (D + 1) s2 H2 fp) [] H5 D := ⟨D5, DL, Dfs, .inr (Nat.le_of_eq hD), Dcell, fun p hp => absurd (show p ∈ ([] : List (Addr × Obj)) from hp) (by simp)⟩
    have Dob : ∀ b ∈ [D], ∃ o, s5.heap.get? b = some o ∧ ∀ v, o.data ≠ .cell v := fun b hb => by
      have e : b = D := by simpa using hb
      subst e
      obtain ⟨n, q⟩ := l5
      exact ⟨_, q, fun v z => by cases z⟩
    have I5p : Inv (compCx X (ns ++ cs.map (·.1)) scope (D + 1) s2 H2 fp) (pinsAt [D] s5.heap) σ5 H5 s5 := by
      have q := I5.pinned (fp := [D]) (fun b hb => by have e : b = D := by simpa using hb
                                                      subst e; exact Dp) Dob
      rw [List.nil_append] at q
      exact q
    have ner : ∀ b ∈ fp, ∀ p ∈ pinsAt [D] s5.heap, p.1 ≠ b := fun b hb p hp z => by
      have e : p.1 = D := by simpa using (of_pinsAt hp).1
      exact fpD b hb (z.symm.trans e)
    have fp5' : ∀ b ∈ fp, FpOk (compCx X (ns ++ cs.map (·.1)) scope (D + 1) s2 H2 fp) (pinsAt [D] s5.heap) H5 b := fun b hb => ⟨fr5 b hb, nC b hb, I4.ok.exfs b hb, .inl hb, (I4.ok.exf b hb).2, fun p hp => ner b hb p (by simpa [compCx] using hp)⟩
    have lenR : vs.length = es.length := r5.length
    have lenV : vs.length = its.length := v5.length
    by_cases hlt : i < ds.length
    · refine thn (T.item (compCx X (ns ++ cs.map (·.1)) scope (D + 1) s2 H2 fp) rfl rfl rfl hc i (pinsAt [D] s5.heap) s5 σ5 H5 _ I5p fp5' t5 (wk.go i H5 e5 hlt)) fun r s6 ⟨u, hr, h6⟩ => ?_
      subst hr
      refine thn h6 fun _ s7 ⟨xv, H7, I7, r7, y7, t7, fr7⟩ => ?_
      obtain ⟨e57, d, hd, rd⟩ := wk.yld i H5 xv H7 e5 hlt y7
      rw [drop_cons hd] at hz
      have I7p := I7.pinned (fp := fp) (fun b hb => ⟨fr7 b hb, nC b hb, I4.ok.exfs b hb, .inl hb, (I4.ok.exf b hb).2, fun p hp => ner b hb p (by simpa [compCx] using hp)⟩) (T.obj _ _ t7)
      have fin : ∀ {σ8 : L2.St} {H8 : Hp} {s8 : Shared}, Inv (compCx X (ns ++ cs.map (·.1)) scope (D + 1) s2 H2 fp) (pinsAt [D] s5.heap ++ pinsAt fp s7.heap) σ8 H8 s8 → tn (i + 1) s8.heap ∧ (∀ b ∈ fp, H8 b = none) ∧ H8 D = none ∧ LAt s8.heap D its := fun {σ8 H8 s8} I8 => by
        refine ⟨T.keep _ _ _ t7 fun b hb o e => (I8.pin (b, o) (List.mem_append_right _ (List.mem_append_right _ (mem_pinsAt hb e)))).1, fun b hb => ?_, ?_, ?_⟩
        · obtain ⟨o, e, _⟩ := T.obj _ _ t7 b hb
          exact (I8.pin (b, o) (List.mem_append_right _ (List.mem_append_right _ (mem_pinsAt hb e)))).2.1
        · obtain ⟨n, q⟩ := l5
          exact (I8.pin (D, _) (List.mem_append_right _ (List.mem_append_left _ (mem_pinsAt (by simp) q)))).2.1
        · obtain ⟨n, q⟩ := l5
          exact ⟨n, (I8.pin (D, _) (List.mem_append_right _ (List.mem_append_left _ (mem_pinsAt (by simp) q)))).1⟩
      unfold mapG at hz
      match hb : b d (capG ns.length cs ρ) with
      | none => rw [hb] at hz; exact hz.elim
      | some ρd =>
        rw [hb] at hz
        dsimp only at hz
        refine wpAny_mono ((htg (D + 1) s2 H2 fp).h _ s7 σ5 H7 xv u d (capG ns.length cs ρ) ρd I7p r7 rd (E5.mono e57) hb) (fun _ s8 ⟨σ8, H8, I8, e78, E8⟩ => ?_) fun _ _ z => False.elim z
        have e58 := e57.trans e78
        have back : ∀ {σ9 : L2.St} {H9 : Hp}, Envs X.K H9 σ9 ρd → Envs X.K H9 σ9 (capG ns.length cs ρ) := fun {σ9 H9} E9 => by
          have q := Envs.fgt js E9
          rw [hback ρ d ρd hb] at q
          exact q
        have took : ∀ {H9 : Hp} {s9 : Shared}, Inv (compCx X (ns ++ cs.map (·.1)) scope (D + 1) s2 H2 fp) (pinsAt [D] s5.heap ++ pinsAt fp s7.heap) σ8 H9 s9 → Same H8 H9 →
            (match (match fe ρd with | some (.ok y) => (match mapG b tst fe (capG ns.length cs ρ) (ds.drop (i + 1)) with | some ys => some (y :: ys) | none => none) | _ => none) with | some zs => es ++ zs = ys | none => False) →
            wpAny (model X.prog X.w) X.A (eval elt (compEnvC scope (clOf scope.names X.env []) (D + 1) X.env)) (fun xw s₄ =>
              wpAny (model X.prog X.w) X.A (call (.builtin "list.append") [.ref D, xw]) (fun _ s₅ => ∃ k, k < ds.length - i ∧ CompG X ns cs scope D s2 H2 fp tn ds ys b tst fe ρ k s₅) (notedBy (model X.prog X.w) X.A (compEnvC scope (clOf scope.names X.env []) (D + 1) X.env) fun e s' => RR (.ref D) (D + 1) (.error e) s') s₄) (notedBy (model X.prog X.w) X.A (compEnvC scope (clOf scope.names X.env []) (D + 1) X.env) fun e s' => RR (.ref D) (D + 1) (.error e) s') s9 := fun {H9 s9} I9 e9 hz9 => by
          match hfe : fe ρd, hz9 with
          | none, hz9 => exact hz9.elim
          | some (.exc c), hz9 => exact hz9.elim
          | some (.ok y), hz9 =>
            refine wpAny_mono ((helt (D + 1) s2 H2 fp).h _ s9 σ8 H9 (fun v H10 => Same H9 H10 ∧ Rep X.K H10 y v) I9 ⟨ρd, E8.mono e9, by rw [hfe]; exact fun v H10 e10 r10 => ⟨e10, r10⟩⟩) (fun w s10 ⟨yv, H10, I10, rw10, e10, r10⟩ => ?_) fun _ _ z => False.elim z
            obtain ⟨t10, fr10, D10, l10⟩ := fin I10
            refine lat_append l10 (by omega) fun h11 l11 k11 => ?_
            have I10' : Inv (compCx X (ns ++ cs.map (·.1)) scope (D + 1) s2 H2 fp) (pinsAt fp s7.heap) σ8 H10 s10 := I10.pins_of fun p hp => I10.pin p (List.mem_append_right _ (List.mem_append_right _ hp))
            have I11 : Inv (compCx X (ns ++ cs.map (·.1)) scope (D + 1) s2 H2 fp) (pinsAt fp s7.heap) σ8 H10 { s10 with heap := h11 } := I10'.turned (t' := s10.toks) k11 D10 DL (.inr (Nat.le_of_eq hD)) Dcell fun p hp z => by
              have hp' : p ∈ pinsAt fp s7.heap := by simpa [compCx] using hp
              exact fpD p.1 (of_pinsAt hp').1 z
            have e80 := e9.trans e10
            refine ⟨ds.length - (i + 1), by omega, i + 1, σ8, H10, es ++ [y], vs ++ [yv], its ++ [w], rfl, hlt, I11.pins_of fun p hp => absurd hp (by simp), back (E8.mono e80), T.keep _ _ _ t10 fun b hb o e => k11 b o (fpD b hb) e, fr10, D10, l11, v5.append (.cons rw10 .nil), (Reps.mono (e58.trans e80) _ _ r5).append ⟨yv, [], rfl, r10, rfl⟩, by rw [List.length_append, List.length_singleton]; omega, e5.trans (e58.trans e80), ?_⟩
            match hm2 : mapG b tst fe (capG ns.length cs ρ) (ds.drop (i + 1)), hz9 with
            | none, hz9 => exact hz9.elim
            | some zs, hz9 => dsimp only at hz9 ⊢; rw [List.append_assoc]; exact hz9
        have hif := hifs (D + 1) s2 H2 fp
        cases tst with
        | none =>
          cases (show ifs = [] from hif)
          exact wpAny_tests_nil (by rw [if_pos rfl]; exact took I8 (.refl H8) hz)
        | some t =>
          obtain ⟨c, rfl, hct⟩ := hif
          match htt : t ρd, hz with
          | none, hz => simp only [htt] at hz
          | some (.exc c), hz => simp only [htt] at hz
          | some (.ok true), hz =>
            simp only [htt] at hz
            refine wpAny_tests_one (wpAny_mono (hct.h _ s8 σ8 H8 (fun b H9 => b = true ∧ Same H8 H9) I8 ⟨_, E8, by rw [htt]; exact fun H9 e9 => ⟨rfl, e9⟩⟩) (fun b s9 ⟨H9, I9, hb, e9⟩ => ?_) fun _ _ z => False.elim z)
            subst hb
            rw [if_pos rfl]
            exact took I9 e9 hz
          | some (.ok false), hz =>
            simp only [htt] at hz
            refine wpAny_tests_one (wpAny_mono (hct.h _ s8 σ8 H8 (fun b H9 => b = false ∧ Same H8 H9) I8 ⟨_, E8, by rw [htt]; exact fun H9 e9 => ⟨rfl, e9⟩⟩) (fun b s9 ⟨H9, I9, hb, e9⟩ => ?_) fun _ _ z => False.elim z)
            subst hb
            rw [if_neg Bool.false_ne_true]
            obtain ⟨t9, fr9, D9, l9⟩ := fin I9
            exact ⟨ds.length - (i + 1), by omega, i + 1, σ8, H9, es, vs, its, rfl, hlt, I9.pins_of fun p hp => absurd hp (by simp), back (E8.mono e9), t9, fr9, D9, l9, v5, Reps.mono (e58.trans e9) _ _ r5, by omega, e5.trans (e58.trans e9), hz⟩
    · have hi' : i = ds.length := by omega
      subst hi'
      rw [List.drop_length] at hz
      have hz' : es ++ [] = ys := hz
      rw [List.append_nil] at hz'
      subst hz'
      refine thn (T.done (compCx X (ns ++ cs.map (·.1)) scope (D + 1) s2 H2 fp) rfl rfl rfl hc ds.length (pinsAt [D] s5.heap) s5 σ5 H5 _ I5p fp5' t5 (wk.stop H5 e5)) fun r s6 ⟨hr, I6⟩ => ?_
      subst hr
      have l6 : LAt s6.heap D its := by
        obtain ⟨n, q⟩ := l5
        exact ⟨n, (I6.pin (D, _) (List.mem_append_right _ (mem_pinsAt (by simp) q))).1⟩
      obtain ⟨m6, n6, _⟩ := I6.loc
      have C6 : H5 (D + 1) = none := I6.free
      have new : ObjOk X.prog X.w (upd H5 D (.lst vs)) s6.heap D (.lst vs) := by
        obtain ⟨n, q⟩ := l6
        exact ⟨by rw [lenR]; exact le_line hyl, its, n, v5, q⟩
      have u6 : Un (frs X.stack) fp H2 H5 s2.heap s6.heap := I6.base
      have nD : ∀ b o, s2.heap.get? b = some o → b ≠ D := fun b o e => by
        have hb : b < D := by rw [← hD]; exact Heap.lt_size e
        exact ad_ne hb
      have u7 : Un (frs X.stack) fp H2 (upd H5 D (.lst vs)) s2.heap s6.heap := ⟨u6.keep, u6.slot, fun b o e n hx => by rw [upd_ne (nD b o e)]; exact u6.free b o e n hx, u6.there, fun b xs q => by
          have q' := u6.tups b xs q
          rw [upd_ne (ne_of_none q' D5)]; exact q', fun b o u q => by
          have q' := u6.frzs b o u q
          rw [upd_ne (ne_of_none q' D5)]; exact q', fun b ps q => by
          obtain ⟨more, q'⟩ := u6.tbls b ps q
          exact ⟨more, by rw [upd_ne (ne_of_none q' D5)]; exact q'⟩⟩
      have I7 : Inv X pins σ (upd H5 D (.lst vs)) s6 := I2.call' (s' := s6) (ch := fp) I6.os u7 (HOk.add I6.hok D5 C6 (fun b u _ q => q) new) I6.bare fun b hb => ⟨(f2 b hb).2.2.2.1, (f2 b hb).2.1, (f2 b hb).2.2.2.2.1, (f2 b hb).2.2.2.2.2⟩
      exact hRR D (D + 1) s6 H5 vs m6 I7 D5 e5 r5 n6 C6 (Ne.symm ad_s) (by rw [hD]; exact Nat.le_succ D)
  exact codeAny_compStart_list (loop _ rfl) (T.self _ 0 _ _ _ (T.keep _ _ _ st2 fun b hb o e => old b o e) (loop _ rfl))
end FD
namespace FD
open PySem PySem.Spec PyProof.Rows L2
def fCompG (m : Nat) (cs : List (Str × Nat)) (src : FnA) (b : Dv → Ev → Option Ev) (tst : Option FnB) (elt : FnE) : FnE := fun ρ => bnd (src ρ) fun ds => match mapG b tst elt (capG m cs ρ) ds with
  | some ys => if ys.length ≤ 100000 ∧ ds.length ≤ 100000 then some (.ok (.lst ys)) else none
  | none => none
theorem keyG {m : Nat} {cs : List (Str × Nat)} {src : FnA} {b : Dv → Ev → Option Ev} {tst : Option FnB} {fe : FnE} {ρ : Ev} {o : Rs Dv} (h : fCompG m cs src b tst fe ρ = some o) :
    (∃ c, src ρ = some (.exc c) ∧ o = .exc c) ∨ ∃ ds ys, src ρ = some (.ok ds) ∧ mapG b tst fe (capG m cs ρ) ds = some ys ∧ ds.length ≤ 100000 ∧ ys.length ≤ 100000 ∧ o = .ok (.lst ys) := by
  unfold fCompG at h
  match hf : src ρ with
  | none => rw [hf] at h; cases h
  | some (.exc c) => rw [hf] at h; cases h; exact .inl ⟨c, rfl, rfl⟩
  | some (.ok ds) =>
    rw [hf] at h
    dsimp only [bnd] at h
    match hm : mapG b tst fe (capG m cs ρ) ds with
    | none => rw [hm] at h; cases h
    | some ys =>
      rw [hm] at h
      dsimp only at h
      split at h
      · rename_i hl
        cases h
        exact .inr ⟨ds, ys, rfl, hm, hl.2, hl.1, rfl⟩
      · cases h
theorem fe_compG {X : Cx} {tg elt iter : Expr} {ifs : List Expr} {scope : Scope} {pos : Pos} {src : FnA} {tst : Option FnB} {fe : FnE} {b : Dv → Ev → Option Ev} (osc : Scope) (N ns : List Str) (js : List Nat) (cs : List (Str × Nat)) (hosc : X.env.scope = osc) (hN : X.N = N) (ok : CompOkG osc scope cs N) (hcl : closureFor scope X.env = pure (clOf scope.names X.env [])) (hc : X.calm = true)
    (hback : ∀ ρ d ρ', b d (capG ns.length cs ρ) = some ρ' → fgt js ρ' = capG ns.length cs ρ)
    (hi : FIG X tg iter src) (htg : ∀ C s H fp, FG (compCx X (ns ++ cs.map (·.1)) scope C s H fp) tg b) (helt : ∀ C s H fp, FE (compCx X (ns ++ cs.map (·.1)) scope C s H fp) elt fe) (hifs : ∀ C s H fp, FIfs (compCx X (ns ++ cs.map (·.1)) scope C s H fp) ifs tst)
    (hs : ∀ x, foldedSetIterable iter X.env x = pure x := by intro _; kernel_rfl) : FE X (.ListComp elt [⟨tg, iter, ifs, 0⟩] scope pos) (fCompG ns.length cs src b tst fe) := by
  subst hosc hN
  constructor
  intro pins s σ H Q I h
  obtain ⟨ρ, E, o⟩ := h
  match ho : fCompG ns.length cs src b tst fe ρ with
  | none => rw [ho] at o; exact o.elim
  | some r =>
    rw [ho] at o
    rw [eval_ListComp]
    have key : OutG X H (src ρ) fun J H' => ∃ ds ys, Same H H' ∧ WkG X.K J ds H' ∧ ds.length ≤ 100000 ∧ ys.length ≤ 100000 ∧ mapG b tst fe (capG ns.length cs ρ) ds = some ys ∧ (∀ v H'', Same H' H'' → Rep X.K H'' (.lst ys) v → Q v H'') := by
      rcases keyG ho with ⟨c, e1, e2⟩ | ⟨ds, ys, e1, e2, l1, l2, e3⟩
      · subst e2; rw [e1]; exact o
      · subst e3; rw [e1]; exact fun J H' e wk => ⟨ds, ys, e, wk, l1, l2, e2, fun v H'' e2 r => o v H'' (e.trans e2) r⟩
    refine wpAny_comprehension_free (use := none) rfl hs hcl ok.kind ok.names (thn (hi.h pins s σ H _ I ⟨ρ, E, key⟩) fun v s1 h1 => thn h1 fun itv s2 h2 => ?_)
    obtain ⟨it, fp, tn, J, H2, e, I2, T, st2, f2, ds, ys, e12, wk, hdl, hyl, hm, hQ⟩ := h2
    subst e
    refine comp_core cs ok hc htg helt hifs hback (E.mono e12) I2 T st2 f2 wk hdl hyl hm (RR := fun acc C => compPost (model X.prog X.w) X.A X.xe none (EP X pins σ Q) acc C) fun D C s6 H5 vs m6 I6 D5 e5 r5 n6 C6 CD hC => ?_
    refine ⟨m6, n6, fun h7 sb7 => ?_⟩
    have Cn : (upd H5 D (.lst vs)) C = none := by rw [upd_ne CD]; exact C6
    obtain ⟨q0, q1, q2, q3, q4, q5⟩ := I2.fpOk hC Cn
    have I7 : Inv X pins σ (upd H5 D (.lst vs)) { s6 with heap := h7 } := I6.turned (t' := s6.toks) (fun b o hb e => sb7.extBut b o hb e) q0 q1 q3 q4 q5
    exact ⟨.ref D, _, I7, rfl, hQ _ _ (e5.trans (same_new D5 _)) ⟨D, vs, rfl, upd_same, Reps.mono (same_new D5 _) _ _ r5⟩⟩
/-- name = [comprehension] -/
theorem fs_setC {X : Cx} {tg elt iter : Expr} {ifs : List Expr} {scope : Scope} {pos : Pos} {src : FnA} {tst : Option FnB} {fe : FnE} {b : Dv → Ev → Option Ev} {y : Str} {py spos : Pos} (i : Nat) (hnd : X.N.Nodup) (hiy : X.N[i]? = some y) (hxy : Loc X.env.scope y) (hfy : X.fn y = true ∨ X.env.scope.names.lookup y = some .local)
    (osc : Scope) (N ns : List Str) (js : List Nat) (cs : List (Str × Nat)) (hosc : X.env.scope = osc) (hN : X.N = N) (ok : CompOkG osc scope cs N) (hcl : closureFor scope X.env = pure (clOf scope.names X.env [])) (hc : X.calm = true)
    (hback : ∀ ρ d ρ', b d (capG ns.length cs ρ) = some ρ' → fgt js ρ' = capG ns.length cs ρ)
    (hi : FIG X tg iter src) (htg : ∀ C s H fp, FG (compCx X (ns ++ cs.map (·.1)) scope C s H fp) tg b) (helt : ∀ C s H fp, FE (compCx X (ns ++ cs.map (·.1)) scope C s H fp) elt fe) (hifs : ∀ C s H fp, FIfs (compCx X (ns ++ cs.map (·.1)) scope C s H fp) ifs tst)
    (hsw : swapsWith (.ListComp elt [⟨tg, iter, ifs, 0⟩] scope pos) (some (.Name y py)) spos.line X.env = pure true := by kernel_rfl)
    (hs : ∀ x, foldedSetIterable iter X.env x = pure x := by intro _; kernel_rfl) : FS X (.Assign [.Name y py] (.ListComp elt [⟨tg, iter, ifs, 0⟩] scope pos) spos) (fSet i (fCompG ns.length cs src b tst fe)) := by
  subst hosc hN
  constructor
  intro pins s σ H D0 I h
  obtain ⟨ρ, E, o⟩ := h
  match ho : fCompG ns.length cs src b tst fe ρ with
  | none => unfold fSet at o; rw [ho] at o; exact o.elim
  | some r =>
    unfold fSet at o
    rw [ho] at o
    have key : OutG X H (src ρ) fun J H' => ∃ ds ys, Same H H' ∧ WkG X.K J ds H' ∧ ds.length ≤ 100000 ∧ ys.length ≤ 100000 ∧ mapG b tst fe (capG ns.length cs ρ) ds = some ys ∧ (∀ σ'' H'', Same H' H'' → Envs X.K H'' σ'' (ρ.set i (some (.lst ys))) → D0.nx σ'' H'') := by
      rcases keyG ho with ⟨c, e1, e2⟩ | ⟨ds, ys, e1, e2, l1, l2, e3⟩
      · subst e2; rw [e1]; exact o
      · subst e3; rw [e1]; exact fun J H' e wk => ⟨ds, ys, e, wk, l1, l2, e2, fun v H'' e2 r => o v H'' (e.trans e2) r⟩
    rw [exec_Assign_Name_used _ _ _ _ hsw]
    refine wpAny_bind (wpAny_standAt (wpAny_bind ?_))
    show wpAny _ X.A (do let _ ← comprehension (.ListComp elt [⟨tg, iter, ifs, 0⟩] scope pos) scope X.env _ (newList []) false (eval iter X.env) (some (assign (.Name y py) X.env))) _ _ s
    refine wpAny_bind (wpAny_mono (wpAny_comprehension_free (use := some (assign (.Name y py) X.env)) (Q := fun _ s' => SP X pins D0 .next s') rfl hs hcl ok.kind ok.names
      (thn (hi.h pins s σ H _ I ⟨ρ, E, key⟩) fun v s1 h1 => thn h1 fun itv s2 h2 => ?_)) (fun _ s' hq => wpAny_pure (wpAny_pure hq)) fun _ _ e => e)
    obtain ⟨it, fp, tn, J, H2, e, I2, T, st2, f2, ds, ys, e12, wk, hdl, hyl, hm, hQ⟩ := h2
    subst e
    refine comp_core cs ok hc htg helt hifs hback (E.mono e12) I2 T st2 f2 wk hdl hyl hm (RR := fun acc C => compPost (model X.prog X.w) X.A X.xe (some (assign (.Name y py) X.env)) (fun _ s' => SP X pins D0 .next s') acc C) fun D C s6 H5 vs m6 I6 D5 e5 r5 n6 C6 CD hC => ?_
    have Cn : (upd H5 D (.lst vs)) C = none := by rw [upd_ne CD]; exact C6
    have FC := I2.fpOk hC Cn
    obtain ⟨oC, es, ep, hoC, hdC, rC⟩ := id n6
    have I6p := I6.pinned (fp := [C]) (fun b hb => by have e : b = C := by simpa using hb
                                                      subst e; exact FC) (fun b hb => by
      have e : b = C := by simpa using hb
      subst e
      exact ⟨oC, hoC, fun v z => by rw [hdC] at z; cases z⟩)
    refine thn (pg_name hnd hiy hxy hfy _ s6 σ _ (.ref D) (.ref D) (fun σ' H' => σ' = σ.set i (some (.ref D)) ∧ H' = upd H5 D (.lst vs)) I6p rfl ⟨rfl, rfl⟩) fun _ s8 ⟨σ8, H8, I8, e1, e2⟩ => ?_
    subst e1 e2
    have hC8 := (I8.pin (C, oC) (List.mem_append_right _ (List.mem_append_right _ (mem_pinsAt (by simp) hoC)))).1
    refine ⟨m6, ⟨oC, es, ep, hC8, hdC, rC⟩, fun h9 sb9 => ?_⟩
    have I8' : Inv X pins (σ.set i (some (.ref D))) (upd H5 D (.lst vs)) s8 := I8.unpinned
    obtain ⟨q0, q1, q2, q3, q4, q5⟩ := FC
    have I9 : Inv X pins (σ.set i (some (.ref D))) (upd H5 D (.lst vs)) { s8 with heap := h9 } := I8'.turned (t' := s8.toks) (fun b o hb e => sb9.extBut b o hb e) q0 q1 q3 q4 q5
    refine ⟨_, _, I9, hQ _ _ (e5.trans (same_new D5 _)) ?_⟩
    exact ((E.mono e12).mono (e5.trans (same_new D5 _))).set ⟨D, vs, rfl, upd_same, Reps.mono (same_new D5 _) _ _ r5⟩
theorem back1 (cs : List (Str × Nat)) (ρ : Ev) (d : Dv) (ρ' : Ev) (h : gN 0 d (capG 1 cs ρ) = some ρ') : fgt [0] ρ' = capG 1 cs ρ := by
  cases h
  rfl
theorem back2 (cs : List (Str × Nat)) (ρ : Ev) (d : Dv) (ρ' : Ev) (h : gP 0 1 d (capG 2 cs ρ) = some ρ') : fgt [0, 1] ρ' = capG 2 cs ρ := by
  unfold gP at h
  split at h
  · cases h
    rfl
  · cases h
/-! ### for k, x in enumerate(list) -/
def Ite (K : PySem.W.Frag) (a : Addr) : It :=
  ⟨fun i H => ∃ xs x, SqL K H a xs ∧ xs[i]? = some x, fun i H v H' => ∃ p x, v = .ref p ∧ H p = none ∧ H' = upd H p (.tup [.int i, x]) ∧ ∀ xs, SqL K H a xs → xs[i]? = some x, fun i H => ∃ xs, SqL K H a xs ∧ xs.length ≤ i⟩
theorem turn_enum {P : Program} {w : World} {K : PySem.W.Frag} {es : List Expr} {k : Nat} {pos : Pos} (a e it : Addr) (hne : e ≠ it) : Turn P w K (.Tuple es k pos) (Ite K a) [e, it] e (fun i h => (∃ old, IsEnum h e it i old) ∧ h.IsListIter it a i) where
  mem := by simp
  obj := fun i h st b hb => by
    obtain ⟨⟨old, he⟩, o, e2, c, d⟩ := st
    have hb' : b = e ∨ b = it := by simpa using hb
    rcases hb' with rfl | rfl
    · exact ⟨_, he, fun v z => by cases z⟩
    · exact ⟨o, e2, fun v z => by rw [d] at z; cases z⟩
  keep := fun i h h' st kk => by
    obtain ⟨⟨old, he⟩, st2⟩ := st
    exact ⟨⟨old, kk e (by simp) _ he⟩, st2.at fun o ee => kk it (by simp) o ee⟩
  item := by
    intro X hP hw hK hc i pins s σ H E I hf st hg
    subst hP hw hK
    obtain ⟨xs, x, hq, hx⟩ := hg
    obtain ⟨its, rv, p, hz⟩ := I.list hq
    obtain ⟨u, hu, ru⟩ := rv.get hx
    obtain ⟨⟨old, he⟩, st2⟩ := st
    obtain ⟨f0, f1, f2, f3, f4, f5⟩ := hf e (by simp)
    obtain ⟨g0, g1, g2, g3, g4, g5⟩ := hf it (by simp)
    refine wpAny_pyNext_enum_item he st2 p.isList (x := u) (by simpa using hu) hne fun h' eo st' tp sz kk => ?_
    refine ⟨_, rfl, wpAny_letOwnedTupleGo_enum eo fun h2 he2 sb2 => ?_⟩
    have hp : H s.heap.objs.size = none := I.hok.fresh (Nat.le_refl _)
    have elt : e < s.heap.objs.size := Heap.lt_size he
    have k2 : ∀ b o, b ∉ [e, it] → s.heap.get? b = some o → h2.get? b = some o := fun b o hb q => sb2.extBut b o (fun z => hb (by simp [z])) (kk b o (fun z => hb (by simp [z])) (fun z => hb (by simp [z])) q)
    have tp2 : h2.get? s.heap.objs.size = some { cls := .type "tuple", data := .seq #[.int i s.toks, u] } := sb2.extBut _ _ (Nat.ne_of_gt elt) tp
    have I1 : Inv X pins σ (upd H s.heap.objs.size (.tup [.int i, x])) { s with heap := h2, toks := s.toks + 1 } := by
      have nt : ∀ b u, H b = some u → b ∉ [e, it] := fun b u q z => by
        have z' : b = e ∨ b = it := by simpa using z
        rcases z' with rfl | rfl
        · rw [f0] at q; cases q
        · rw [g0] at q; cases q
      refine I.step (g' := s.gens) (d' := s.drawn) (ch := [e, it]) (fun b hb => ?_) (fun b o _ _ hcb q _ => k2 b o hcb q) (fun b o _ _ hcb q _ => ⟨o.slots, k2 b o hcb q⟩) (fun b o hcb q n => ?_) (fun b o hcb q => ⟨o, k2 b o hcb q⟩)
        (fun b ys q => by rw [upd_ne (ne_of_none q hp)]; exact q) (fun b o ys q => by rw [upd_ne (ne_of_none q hp)]; exact q) (fun b ps q => ⟨#[], by rw [upd_ne (ne_of_none q hp), q]; simp⟩) (fun m hm => ?_) (fun b u2 q => ?_) I.bare
      · have z' : b = e ∨ b = it := by simpa using hb
        rcases z' with rfl | rfl
        · exact ⟨f3, f1, f4, f5⟩
        · exact ⟨g3, g1, g4, g5⟩
      · rw [upd_ne (Nat.ne_of_lt (Heap.lt_size q))]; exact n
      · obtain ⟨o, es', ep, ho, r⟩ := hm
        exact ⟨o, es', ep, k2 _ o (fun z => by
          have z' : X.env.locals = e ∨ X.env.locals = it := by simpa using z
          rcases z' with z' | z'
          · exact f1 z'.symm
          · exact g1 z'.symm) ho, r⟩
      · by_cases hb : b = s.heap.objs.size
        · subst hb
          rw [upd_same] at q
          cases q
          exact ⟨by show 2 ≤ sizeLine; decide, [.int i s.toks, u], .cons ⟨_, rfl⟩ (.cons ru .nil), ⟨_, tp2, rfl, _, rfl⟩⟩
        · rw [upd_ne hb] at q
          refine (I.hok b u2 q).stay (fun c v hcv qq => k2 c v ?_ qq) (fun c qq => by rw [upd_ne (ne_of_none qq hp)]; exact qq) fun c ys qq => by rw [upd_ne (ne_of_none qq hp)]; exact qq
          rcases hcv with rfl | hcv
          · exact nt _ _ q
          · exact nt _ _ hcv
    refine ⟨.ref s.heap.objs.size, _, I1, rfl, ⟨_, x, rfl, hp, rfl, fun zs hy => by rw [I.list_inj hy hq]; exact hx⟩, ⟨⟨_, by simpa using he2⟩, ?_⟩, fun b hb => ?_⟩
    · exact st'.at fun o q => sb2.extBut _ _ (Ne.symm hne) q
    · have z' : b = e ∨ b = it := by simpa using hb
      rcases z' with rfl | rfl
      · rw [upd_ne (Nat.ne_of_lt elt)]; exact f0
      · obtain ⟨o, q, _⟩ := id st2
        rw [upd_ne (Nat.ne_of_lt (Heap.lt_size q))]; exact g0
  done := by
    intro X hP hw hK hc i pins s σ H E I hf st hg
    subst hP hw hK
    obtain ⟨xs, hq, hx⟩ := hg
    obtain ⟨its, rv, p, hz⟩ := I.list hq
    obtain ⟨⟨old, he⟩, st2⟩ := st
    obtain ⟨g0, g1, g2, g3, g4, g5⟩ := hf it (by simp)
    have hl := rv.length
    exact wpAny_pyNext_enum_end (I.ok.hd hc) he st2 p.isList (by simp; omega) fun h' eb => ⟨rfl, I.turned (t' := s.toks) (fun b o hb e => eb b o hb e) g0 g1 g3 g4 g5⟩
  self := fun _ _ _ _ _ st h => by
    obtain ⟨⟨old, he⟩, _⟩ := st
    exact wpAny_pyIter_enum he h
def enumL : Nat → List Dv → List Dv
  | _, [] => []
  | k, d :: ds => .tup [.int k, d] :: enumL (k + 1) ds
theorem enumL_length : ∀ (ds : List Dv) (k : Nat), (enumL k ds).length = ds.length
  | [], _ => rfl
  | d :: ds, k => by show (enumL (k + 1) ds).length + 1 = ds.length + 1; rw [enumL_length]
theorem enumL_get : ∀ (ds : List Dv) (k i : Nat) (d : Dv), ds[i]? = some d → (enumL k ds)[i]? = some (.tup [.int ((k + i : Nat) : Int), d])
  | [], _, _, _, h => by simp at h
  | d :: ds, k, 0, d', h => by simp at h; subst h; rfl
  | d :: ds, k, i + 1, d', h => by
    have q := enumL_get ds (k + 1) i d' (by simpa using h)
    show (Dv.tup [.int k, d] :: enumL (k + 1) ds)[i + 1]? = _
    rw [List.getElem?_cons_succ, q]
    have e : k + 1 + i = k + (i + 1) := by omega
    rw [e]
theorem wk_enum {K : PySem.W.Frag} {H : Hp} {a : Addr} {xs : List V} {ds : List Dv} (h : H a = some (.lst xs)) (r : Reps K H ds xs) : WkG K (Ite K a) (enumL 0 ds) H where
  go := fun i H' e hi => by
    rw [enumL_length] at hi
    have hx : i < xs.length := by rw [r.length]; exact hi
    exact ⟨xs, xs[i], SqL.of (e _ _ h), by simp [hx]⟩
  stop := fun H' e => ⟨xs, SqL.of (e _ _ h), by rw [r.length, enumL_length]; exact Nat.le_refl _⟩
  yld := fun i H' v H2 e hi y => by
    obtain ⟨p, x, rfl, hp, rfl, y⟩ := y
    obtain ⟨d, h1, h2⟩ := Reps.get (Reps.mono e _ _ r) (y xs (SqL.of (e _ _ h)))
    have q := enumL_get ds 0 i d h1
    rw [Nat.zero_add] at q
    exact ⟨same_new hp _, _, q, ⟨p, _, rfl, upd_same, ⟨.int i, [x], rfl, rfl, x, [], rfl, Rep.mono (same_new hp _) _ _ h2, rfl⟩⟩⟩
def enumD : List Dv → Option (Rs (List Dv))
  | [.lst ds] => some (.ok (enumL 0 ds))
  | _ => none
theorem fig_enum {X : Cx} {es : List Expr} {k : Nat} {pt p pos : Pos} {l : Expr} {ga : FnA} (hg : Gl X "enumerate") (hm : X.mg "enumerate" = none) (ha : FA X [l] ga) (hs : starEach [l] X.env = [(false, eval l X.env)] := by kernel_rfl) : FIG X (.Tuple es k pt) (.Call (.Name "enumerate" p) [l] [] pos) (fun ρ => bnd (ga ρ) enumD) := by
  constructor
  intro pins s σ H R I h
  obtain ⟨ρ, E, o⟩ := h
  have key : OutA X H (ga ρ) fun vs H' => ∃ ds, Reps X.K H' ds vs ∧ OutG X H' (enumD ds) R := by
    match hf : ga ρ, o with
    | some (.exc c), o => exact o
    | some (.ok ds), o => exact fun vs H' e rs => ⟨ds, rs, OutG.mono e o⟩
  refine Call_ (ld_blt I hg hm (show bootBuiltins "enumerate" = some (.type "enumerate") by decide +kernel) (PyProof.Rows.callWith_type1 (thn (ha.h pos pins s σ H _ I ⟨ρ, E, key⟩) fun us s1 ⟨vs, H1, I1, r1, ds, rs, q1⟩ => ?_) hs rfl))
  unfold enumD at q1
  split at q1
  · rename_i xs
    obtain ⟨v, rfl, rv⟩ := reps1 rs
    obtain ⟨a, ws, rfl, h1, h2⟩ := rv.lstE
    obtain ⟨u, rfl, ru⟩ := vals1 r1
    cases ru
    obtain ⟨its, rv', pl, hz⟩ := I1.list (SqL.of h1)
    refine call_enumerate_list pl.isList fun h' he hit hsz kk => ?_
    refine wpAny_pyIter_enum he ?_
    have I2 : Inv X pins σ H1 { s1 with heap := h' } := I1.kept (t' := s1.toks) kk
    refine ⟨s1.heap.objs.size + 1, [s1.heap.objs.size + 1, s1.heap.objs.size], _, Ite X.K a, H1, rfl, I2, turn_enum a _ _ (Nat.succ_ne_self _), ⟨⟨_, he⟩, hit⟩, fun b hb => ?_, q1 _ H1 (.refl H1) (wk_enum h1 h2)⟩
    have hb' : b = s1.heap.objs.size + 1 ∨ b = s1.heap.objs.size := by simpa using hb
    rcases hb' with rfl | rfl
    · exact I1.fpOk (Nat.le_succ _) (I1.hok.fresh (Nat.le_succ _))
    · exact I1.fpOk (Nat.le_refl _) (I1.hok.fresh (Nat.le_refl _))
  · exact q1.elim
end FD
namespace FD
open PySem PySem.Spec PyProof.Rows L2
/-! ### a, b, .. = a tuple -/
def setV : List Nat → List V → L2.St → L2.St
  | i :: is, v :: vs, σ => setV is vs (σ.set i (some v))
  | _, _, σ => σ
def setD : List Nat → List Dv → Ev → Ev
  | i :: is, d :: ds, ρ => setD is ds (ρ.set i (some d))
  | _, _, ρ => ρ
def gAll (is : List Nat) : TGs := fun vs σ H Q => vs.length = is.length ∧ Q (setV is vs σ) H
section
variable {X : Cx} {pos p1 : Pos}
theorem pgs_weak {ts : List Expr} {t t' : TGs} (h : PGs X ts t) (w : ∀ vs σ H Q, t' vs σ H Q → t vs σ H Q) : PGs X ts t' :=
  fun pins s σ H vs us Q I r q => h pins s σ H vs us Q I r (w vs σ H Q q)
theorem gs_nil : PGs X [] (gAll []) := pgs_weak pgs_nil fun vs σ H Q ⟨l, q⟩ => by
  cases vs with
  | nil => exact ⟨rfl, q⟩
  | cons v r => cases l
theorem gs_cons (i : Nat) {x : Str} {is : List Nat} {es : List Expr} (hN : X.N.Nodup) (hi : X.N[i]? = some x) (hx : Loc X.env.scope x) (hf : X.fn x = true ∨ X.env.scope.names.lookup x = some .local) (h : PGs X es (gAll is))
    (hs : (assignEach (.Name x p1 :: es) X.env).map (·.2) = assign (.Name x p1) X.env :: (assignEach es X.env).map (·.2) := by kernel_rfl) : PGs X (.Name x p1 :: es) (gAll (i :: is)) :=
  pgs_weak (pgs_cons (pg_name (i := i) hN hi hx hf) h hs) fun vs σ H Q ⟨l, q⟩ => by
    cases vs with
    | nil => cases l
    | cons v r => exact ⟨v, r, rfl, (⟨Nat.succ.inj l, q⟩ : gAll is r (σ.set i (some v)) H Q)⟩
theorem Envs.setAll {K : PySem.W.Frag} {H : Hp} : ∀ (is : List Nat) {ds : List Dv} {vs : List V} {σ : L2.St} {ρ : Ev}, Envs K H σ ρ → Reps K H ds vs → Envs K H (setV is vs σ) (setD is ds ρ)
  | [], _, _, _, _, E, _ => E
  | _ :: _, [], vs, _, _, E, r => by cases (show vs = [] from r); exact E
  | i :: is, d :: ds, vs, σ, ρ, E, r => by
    obtain ⟨v, us, rfl, h, t⟩ : ∃ v us, vs = v :: us ∧ Rep K H d v ∧ Reps K H ds us := r
    exact Envs.setAll is (E.set h) t
def unpD (is : List Nat) (ρ : Ev) : Dv → Option Fl
  | .tup ds => if ds.length = is.length then some (.nx (setD is ds ρ)) else none
  | _ => none
def fUnp (is : List Nat) (f : FnE) : FnS := fun ρ => bndS (f ρ) (unpD is ρ)
theorem fs_unp {es : List Expr} {k : Nat} {e : Expr} {fa : FnE} {is : List Nat} (hc : X.calm = true) (h : PGs X es (gAll is)) (he : FE X e fa)
    (hn : (assignEach es X.env).length = is.length := by kernel_rfl) (hst : (assignEach es X.env).findIdx? (·.1) = none := by kernel_rfl)
    (hs : swapsWithSole [.Tuple es k p1] e pos.line X.env = pure false := by kernel_rfl) (hw : swappedStores [.Tuple es k p1] e X.env = pure none := by kernel_rfl)
    (h1 : (assignEach [.Tuple es k p1] X.env).map (·.2) = [assign (.Tuple es k p1) X.env] := by kernel_rfl) : FS X (.Assign [.Tuple es k p1] e pos) (fUnp is fa) :=
  fs_of (ps_asg he.h (pg_tup (n := is.length) hc h hn hst) hs hw h1) fun D σ H ρ E o => ⟨ρ, E, Out.bindS o fun d v H1 e r o1 => by
    cases d with
    | tup ds =>
      have o2 : OutS X H1 (if ds.length = is.length then some (.nx (setD is ds ρ)) else none) D := o1
      by_cases hl : ds.length = is.length
      · rw [if_pos hl] at o2
        obtain ⟨a, xs, rfl, h1, h2⟩ := r.tupE
        exact ⟨a, xs, rfl, SqT.of h1, h2.length.trans hl, h2.length.trans hl, o2 _ H1 (.refl H1) (Envs.setAll is (E.mono e) h2)⟩
      · rw [if_neg hl] at o2
        exact o2.elim
    | _ => exact o1.elim⟩
end
/-! ### how blocks go -/
theorem fSeq_nx {a b : FnS} {ρ ρ' : Ev} (h : a ρ = some (.nx ρ')) : fSeq a b ρ = b ρ' := by
  unfold fSeq; rw [h]; rfl
theorem fSeq_rt {a b : FnS} {ρ : Ev} {d : Dv} (h : a ρ = some (.rt d)) : fSeq a b ρ = some (.rt d) := by
  unfold fSeq; rw [h]; rfl
theorem ifS_skip {c : FnB} {f : FnS} {ρ : Ev} (h : c ρ = some (.ok false)) : fIfS c f (fun ρ => some (.nx ρ)) ρ = some (.nx ρ) := by
  unfold fIfS; rw [h]; rfl
theorem fSet_nx {i : Nat} {v : FnE} {ρ ρ' : Ev} {d : Dv} (h : v ρ = some (.ok d)) (e : ρ.set i (some d) = ρ') : fSet i v ρ = some (.nx ρ') := by
  unfold fSet; rw [h, ← e]; rfl
theorem fDrop_nx {v : FnE} {ρ : Ev} {d : Dv} (h : v ρ = some (.ok d)) : fDrop v ρ = some (.nx ρ) := by
  unfold fDrop; rw [h]; rfl
theorem fRet_rt {v : FnE} {ρ : Ev} {d : Dv} (h : v ρ = some (.ok d)) : fRet v ρ = some (.rt d) := by
  unfold fRet; rw [h]; rfl
theorem fUnp_nx {is : List Nat} {v : FnE} {ρ ρ' : Ev} {ds : List Dv} (h : v ρ = some (.ok (.tup ds))) (hl : ds.length = is.length) (e : setD is ds ρ = ρ') : fUnp is v ρ = some (.nx ρ') := by
  unfold fUnp; rw [h]
  show (if _ then _ else _) = _
  rw [if_pos hl, e]
theorem fFor_of {i : Nat} {js : List Nat} {src : FnA} {body : FnS} {ρ : Ev} {ds : List Dv} (h : src ρ = some (.ok ds)) : fFor i js src body ρ = loopF i js body ds ρ := by
  unfold fFor; rw [h]; rfl
theorem bOr_F {a b : FnB} {ρ : Ev} (h : a ρ = some (.ok false)) : bOr a b ρ = b ρ := by unfold bOr; rw [h]; rfl
theorem bOr_T {a b : FnB} {ρ : Ev} (h : a ρ = some (.ok true)) : bOr a b ρ = some (.ok true) := by unfold bOr; rw [h]; rfl
theorem bAnd_T {a b : FnB} {ρ : Ev} (h : a ρ = some (.ok true)) : bAnd a b ρ = b ρ := by unfold bAnd; rw [h]; rfl
theorem bAnd_F {a b : FnB} {ρ : Ev} (h : a ρ = some (.ok false)) : bAnd a b ρ = some (.ok false) := by unfold bAnd; rw [h]; rfl
theorem bNot_of {a : FnB} {ρ : Ev} {k : Bool} (h : a ρ = some (.ok k)) : bNot a ρ = some (.ok (!k)) := by unfold bNot; rw [h]; rfl
theorem fB_of {f : FnE} {ρ : Ev} {k : Bool} (h : f ρ = some (.ok (.bl k))) : fB f ρ = some (.ok k) := by unfold fB; rw [h]; rfl
theorem f2_of {g : Dv → Dv → Option (Rs Dv)} {f h : FnE} {ρ : Ev} {x y : Dv} (hf : f ρ = some (.ok x)) (hh : h ρ = some (.ok y)) : f2 g f h ρ = g x y := by unfold f2; rw [hf, hh]; rfl
theorem fVar_of {i : Nat} {ρ : Ev} {d : Dv} (h : ρ[i]? = some (some d)) : fVar i ρ = some (.ok d) := by unfold fVar; rw [h]
/-- a call, its arguments known -/
theorem aCons_of {f : FnE} {g : FnA} {ρ : Ev} {x : Dv} {xs : List Dv} (h : f ρ = some (.ok x)) (t : g ρ = some (.ok xs)) : aCons f g ρ = some (.ok (x :: xs)) := by unfold aCons; rw [h, t]; rfl
theorem aNil_of {ρ : Ev} : aNil ρ = some (.ok []) := rfl
theorem fCall_of {F : List Dv → Option (Rs Dv)} {n : Nat} {g : FnA} {ρ : Ev} {ds : List Dv} {d : Dv} (h : g ρ = some (.ok ds)) (hl : ds.length = n) (hF : F ds = some (.ok d)) : fCall F n g ρ = some (.ok d) := by
  unfold fCall; rw [h]
  show (if _ then _ else _) = _
  rw [if_pos hl, hF]
theorem call1 (F : List Dv → Option (Rs Dv)) {f : FnE} {ρ : Ev} {a d : Dv} (h : f ρ = some (.ok a)) (hF : F [a] = some (.ok d)) : fCall F 1 (aCons f aNil) ρ = some (.ok d) := fCall_of (aCons_of h aNil_of) rfl hF
theorem call2 (F : List Dv → Option (Rs Dv)) {f g : FnE} {ρ : Ev} {a b d : Dv} (h : f ρ = some (.ok a)) (h' : g ρ = some (.ok b)) (hF : F [a, b] = some (.ok d)) : fCall F 2 (aCons f (aCons g aNil)) ρ = some (.ok d) := fCall_of (aCons_of h (aCons_of h' aNil_of)) rfl hF
theorem fTup_of {g : FnA} {ρ : Ev} {ds : List Dv} (h : g ρ = some (.ok ds)) (hl : ds.length ≤ 100000) : fTup g ρ = some (.ok (.tup ds)) := by
  unfold fTup; rw [h]
  show (if _ then _ else _) = _
  rw [if_pos hl]
theorem vOr_F {f g : FnE} {ρ : Ev} (h : f ρ = some (.ok (.bl false))) : vOr f g ρ = g ρ := by unfold vOr; rw [h]; rfl
theorem vOr_T {f g : FnE} {ρ : Ev} (h : f ρ = some (.ok (.bl true))) : vOr f g ρ = some (.ok (.bl true)) := by unfold vOr; rw [h]; rfl
theorem vAnd_F {f g : FnE} {ρ : Ev} (h : f ρ = some (.ok (.bl false))) : vAnd f g ρ = some (.ok (.bl false)) := by unfold vAnd; rw [h]; rfl
theorem vAnd_T {f g : FnE} {ρ : Ev} (h : f ρ = some (.ok (.bl true))) : vAnd f g ρ = g ρ := by unfold vAnd; rw [h]; rfl
theorem vNot_of {f : FnE} {ρ : Ev} {k : Bool} (h : f ρ = some (.ok (.bl k))) : vNot f ρ = some (.ok (.bl (!k))) := by unfold vNot; rw [h]; rfl
theorem fB1_of {g : List Dv → Option (Rs Dv)} {a : FnA} {ρ : Ev} {ds : List Dv} (h : a ρ = some (.ok ds)) : fB1 g a ρ = g ds := by unfold fB1; rw [h]; rfl
theorem f1_of {g : Dv → Option (Rs Dv)} {f : FnE} {ρ : Ev} {x : Dv} (h : f ρ = some (.ok x)) : f1 g f ρ = g x := by unfold f1; rw [h]; rfl
theorem fIf_T {c : FnB} {f g : FnE} {ρ : Ev} (h : c ρ = some (.ok true)) : fIf c f g ρ = f ρ := by unfold fIf; rw [h]; rfl
theorem fIf_F {c : FnB} {f g : FnE} {ρ : Ev} (h : c ρ = some (.ok false)) : fIf c f g ρ = g ρ := by unfold fIf; rw [h]; rfl
theorem fLst_of {g : FnA} {ρ : Ev} {ds : List Dv} (h : g ρ = some (.ok ds)) (hl : ds.length ≤ 100000) : fLst g ρ = some (.ok (.lst ds)) := by
  unfold fLst; rw [h]
  show (if _ then _ else _) = _
  rw [if_pos hl]
theorem run_nx {n : Nat} {B : FnS} {ds : List Dv} {ρ : Ev} (h : B (ds.map some ++ List.replicate (n - ds.length) none) = some (.nx ρ)) : runF n B ds = some (.ok .non) := by
  unfold runF; rw [h]
theorem run_rt {n : Nat} {B : FnS} {ds : List Dv} {d : Dv} (h : B (ds.map some ++ List.replicate (n - ds.length) none) = some (.rt d)) : runF n B ds = some (.ok d) := by
  unfold runF; rw [h]
end FD
namespace FD
open PySem PySem.Spec PyProof.Rows L2
/-! ### a, b, .. = a list -/
section
variable {prog : Program} {w : World} {A : Around} {E : Value → Shared → Prop}
theorem draw_l {it l : Addr} {xs : Array Value} (ne : l ≠ it) : ∀ (n i : Nat) (s : Shared) (Q : List Value → Shared → Prop), s.heap.IsListIter it l i → s.heap.IsList l xs → i + n ≤ xs.size →
    (∀ h', h'.IsListIter it l (i + n) → Heap.SameBut it s.heap h' → Q ((xs.toList.drop i).take n) { s with heap := h' }) → wpAny (model prog w) A (draw (.ref it) n) Q E s
  | 0, i, s, Q, a, _, _, hQ => by
    show wpAny _ _ (pure []) Q E s
    exact wpAny_pure (by simpa using hQ s.heap a (.refl ..))
  | n + 1, i, s, Q, a, b, c, hQ => by
    have lt : i < xs.size := by omega
    show wpAny _ _ (pyNext (.ref it) >>= _) Q E s
    refine wpAny_bind (wpAny_pyNext_list_item a b (x := xs[i]) (by simp [lt]) fun h1 a1 s1 => ?_)
    refine wpAny_bind (wpAny_holding (draw_l ne n (i + 1) _ _ a1 (b.extBut s1.extBut ne) (by omega) fun h2 a2 s2 => wpAny_pure ?_))
    have e1 : xs.toList.drop i = xs[i] :: xs.toList.drop (i + 1) := by simp [List.drop_eq_getElem_cons, lt]
    have e2 := hQ h2 (by rw [show i + (n + 1) = i + 1 + n by omega]; exact a2) (s1.trans s2)
    rw [e1, List.take_succ_cons] at e2
    exact e2
theorem unpack_l {s : Shared} {l : Addr} {xs : Array Value} {Q : List Value → Shared → Prop} (hh : A.handled = none) (b : s.heap.IsList l xs)
    (hQ : ∀ h', Heap.ExtBut s.heap.objs.size s.heap h' → Q xs.toList { s with heap := h' }) : wpAny (model prog w) A (unpackItems (.ref l) xs.size none) Q E s := by
  have ne : l ≠ s.heap.objs.size := by
    obtain ⟨o, ho, _⟩ := b
    exact Nat.ne_of_lt (Heap.lt_size ho)
  unfold unpackItems
  refine wpAny_bind ?_
  unfold notIterableAtAll
  refine wpAny_bind (wpAny_specialOf b.typeIs slot_list_iter.lookup (wpAny_pure ?_))
  simp only [Bool.false_eq_true, if_false]
  refine wpAny_bind (wpAny_holding (wpAny_pyIter_list b ?_))
  refine wpAny_bind (wpAny_holding (draw_l ne xs.size 0 _ _ ⟨_, Heap.get?_push_size _ rfl, rfl, rfl⟩ (b.push _) (by omega) fun h1 a1 s1 => ?_))
  have e1 : List.take xs.size (List.drop 0 xs.toList) = xs.toList := by rw [List.drop_zero]; exact List.take_of_length_le (by simp)
  rw [e1, if_neg (by simp)]
  have b1 : h1.IsList l xs := (b.push _).extBut s1.extBut ne
  refine wpAny_bind (wpAny_holding (wpAny_pyNext_list_end hh a1 b1 (by simp) fun h2 x2 => ?_))
  simp only [Option.isSome_none, Bool.false_eq_true, if_false]
  exact wpAny_pure (hQ h2 fun c o hc e => x2 c o hc (s1.extBut c o hc (Heap.get?_push_of_some _ e)))
end
section
variable {X : Cx} {pos p1 : Pos}
def gLst (n : Nat) (t : TGs) : TG := fun v σ H Q => ∃ a xs, v = .ref a ∧ H a = some (.lst xs) ∧ xs.length = n ∧ t xs σ H Q
theorem pg_lst {es : List Expr} {k : Nat} {t : TGs} {n : Nat} (hc : X.calm = true) (h : PGs X es t) (hn : (assignEach es X.env).length = n) (hst : (assignEach es X.env).findIdx? (·.1) = none) : PG X (.Tuple es k pos) (gLst n t) := by
  intro pins s σ H v u Q I r ⟨a, xs, e1, hq, hl, hw⟩
  subst e1
  cases r
  obtain ⟨z, its, m, rv, hz, e⟩ := I.lstM hq
  rw [assign_Tuple]
  refine wpAny_bind (wpAny_standAt ?_)
  unfold unpack
  have e2 : (assignEach es X.env).length = its.toArray.size := by rw [hn, ← hl, List.size_toArray, rv.length]
  rw [e2, hst]
  refine wpAny_bind (wpAny_holding (unpack_l (I.ok.hd hc) ⟨_, e, rfl, _, rfl⟩ fun h' hx => ?_))
  have I1 : Inv X pins σ H { s with heap := h' } := I.kept (t' := s.toks) fun b o e => hx b o (Nat.ne_of_lt (Heap.lt_size e)) e
  exact h pins _ σ H xs _ Q I1 (by simpa using rv) hw
def unpL (is : List Nat) (ρ : Ev) : Dv → Option Fl
  | .lst ds => if ds.length = is.length then some (.nx (setD is ds ρ)) else none
  | _ => none
def fUnpL (is : List Nat) (f : FnE) : FnS := fun ρ => bndS (f ρ) (unpL is ρ)
theorem fs_unpL {es : List Expr} {k : Nat} {e : Expr} {fa : FnE} {is : List Nat} (hc : X.calm = true) (h : PGs X es (gAll is)) (he : FE X e fa)
    (hn : (assignEach es X.env).length = is.length := by kernel_rfl) (hst : (assignEach es X.env).findIdx? (·.1) = none := by kernel_rfl)
    (hs : swapsWithSole [.Tuple es k p1] e pos.line X.env = pure false := by kernel_rfl) (hw : swappedStores [.Tuple es k p1] e X.env = pure none := by kernel_rfl)
    (h1 : (assignEach [.Tuple es k p1] X.env).map (·.2) = [assign (.Tuple es k p1) X.env] := by kernel_rfl) : FS X (.Assign [.Tuple es k p1] e pos) (fUnpL is fa) :=
  fs_of (ps_asg he.h (pg_lst (n := is.length) hc h hn hst) hs hw h1) fun D σ H ρ E o => ⟨ρ, E, Out.bindS o fun d v H1 e r o1 => by
    cases d with
    | lst ds =>
      have o2 : OutS X H1 (if ds.length = is.length then some (.nx (setD is ds ρ)) else none) D := o1
      by_cases hl : ds.length = is.length
      · rw [if_pos hl] at o2
        obtain ⟨a, xs, rfl, h1, h2⟩ := r.lstE
        exact ⟨a, xs, rfl, h1, h2.length.trans hl, h2.length.trans hl, o2 _ H1 (.refl H1) (Envs.setAll is (E.mono e) h2)⟩
      · rw [if_neg hl] at o2
        exact o2.elim
    | _ => exact o1.elim⟩
end
theorem fUnpL_nx {is : List Nat} {v : FnE} {ρ ρ' : Ev} {ds : List Dv} (h : v ρ = some (.ok (.lst ds))) (hl : ds.length = is.length) (e : setD is ds ρ = ρ') : fUnpL is v ρ = some (.nx ρ') := by
  unfold fUnpL; rw [h]
  show (if _ then _ else _) = _
  rw [if_pos hl, e]
end FD
namespace FD
open PySem PySem.Spec PyProof.Rows L2
/-! ### exceptions: what noting them does to the heap -/
structure Aft (X : Cx) (e : Addr) (Ts : List Addr) (h h' : Heap) : Prop where
  keep : ∀ b o, h.get? b = some o → b ≠ e → b ∉ Ts → b ∉ frs X.stack → h'.get? b = some o
  slot : ∀ b o, h.get? b = some o → b ∈ frs X.stack → ∃ sl, h'.get? b = some { o with slots := sl }
section
variable {X : Cx} {pins : List (Addr × Obj)} {σ : L2.St} {H : Hp} {s : Shared} {e : Addr} {Ts : List Addr} {h' : Heap}
theorem Aft.any {h : Heap} (A : Aft X e Ts h h') {b : Addr} {o : Obj} (q : h.get? b = some o) (n1 : b ≠ e) (n2 : b ∉ Ts) : ∃ sl, h'.get? b = some { o with slots := sl } := by
  by_cases hb : b ∈ frs X.stack
  · exact A.slot b o q hb
  · exact ⟨o.slots, A.keep b o q n1 n2 hb⟩
theorem fsSub (ok : X.Ok) {b : Addr} (hb : b ∉ frs X.stack) : b ∉ X.fs := fun z => hb (by
  rcases ok.stk with q | ⟨q, _⟩
  · rw [q]; exact z
  · rw [q]
    show b ∈ (X.env :: X.outer).filterMap (·.frame)
    rw [List.filterMap_cons]
    split
    · exact z
    · exact List.mem_cons_of_mem _ z)
theorem Inv.aft (I : Inv X pins σ H s) (A : Aft X e Ts s.heap h') (hex : X.ex = []) (hf : ∀ b, b = e ∨ b ∈ Ts → H b = none ∧ X.s₀.heap.get? b = none ∧ (∀ p ∈ X.pn ++ pins, p.1 ≠ b) ∧ ∃ o vs, s.heap.get? b = some o ∧ o.data = .fields vs) :
    Inv X pins σ H { s with heap := h' } := by
  have nE : ∀ b, H b ≠ none → b ≠ e ∧ b ∉ Ts := fun b hb => ⟨fun z => hb (hf b (.inl z)).1, fun z => hb (hf b (.inr z)).1⟩
  have n0 : ∀ b o, X.s₀.heap.get? b = some o → b ≠ e ∧ b ∉ Ts := fun b o hb => ⟨fun z => (by simp : (some o : Option Obj) ≠ none) (hb.symm.trans (hf b (.inl z)).2.1), fun z => (by simp : (some o : Option Obj) ≠ none) (hb.symm.trans (hf b (.inr z)).2.1)⟩
  have nx : ∀ b, b ∉ X.ex := fun b => by rw [hex]; simp
  have nD : ∀ b o, s.heap.get? b = some o → (∀ vs, o.data ≠ .fields vs) → b ≠ e ∧ b ∉ Ts := fun b o hb hd =>
    have go : (b = e ∨ b ∈ Ts) → False := fun z => by
      obtain ⟨o', vs, q, d⟩ := (hf b z).2.2.2
      rw [hb] at q
      cases q
      exact hd vs d
    ⟨fun z => go (.inl z), fun z => go (.inr z)⟩
  have nS : ∀ b ∈ frs X.stack, H b = none := I.stkFree
  have cellK : ∀ c v, s.heap.IsCell c v → h'.IsCell c v := fun c v ⟨o, ho, hd⟩ => by
    obtain ⟨n1, n2⟩ := nD c o ho fun vs q => by rw [hd] at q; cases q
    obtain ⟨sl, q⟩ := A.any ho n1 n2
    exact ⟨_, q, hd⟩
  refine ⟨I.ok, I.os, I.bare, ⟨fun b o q n hb hx => ?_, fun b o q n hb hx => ?_, I.base.free, fun b o q hx => ?_, I.base.tups, I.base.frzs, I.base.tbls⟩, ?_, fun x c q => ?_, I.free, I.freeC, fun p hp => ?_, fun a o q => ?_, I.len⟩
  · have h1 := I.base.keep b o q n hb hx
    obtain ⟨n1, n2⟩ := n0 b o q
    refine A.keep b o h1 n1 n2 fun z => ?_
    rcases List.mem_cons.mp (I.stkSub b z) with z | z
    · exact absurd z (Nat.ne_of_lt (Nat.lt_of_lt_of_le (Heap.lt_size q) I.ok.above))
    · exact hb z
  · obtain ⟨sl, h1⟩ := I.base.slot b o q n hb hx
    obtain ⟨n1, n2⟩ := n0 b o q
    obtain ⟨sl', h2⟩ := A.any h1 n1 n2
    exact ⟨sl', h2⟩
  · obtain ⟨o', h1⟩ := I.base.there b o q hx
    obtain ⟨n1, n2⟩ := n0 b o q
    obtain ⟨sl, h2⟩ := A.any h1 n1 n2
    exact ⟨_, h2⟩
  · obtain ⟨m, ⟨o, es, ep, ho, hd, r⟩, hl⟩ := I.loc
    obtain ⟨n1, n2⟩ := nD _ o ho fun vs q => by rw [hd] at q; cases q
    obtain ⟨sl, q⟩ := A.any ho n1 n2
    refine ⟨m, ⟨_, es, ep, q, hd, r⟩, fun i x v e1 e2 e3 => ?_⟩
    obtain ⟨u, ru, l⟩ := hl i x v e1 e2 e3
    refine ⟨u, ru, ?_⟩
    rcases l with l | ⟨k, c, ec, z⟩
    · exact .inl l
    · exact .inr ⟨k, c, ec, cellK c _ z⟩
  · obtain ⟨v, z⟩ := I.cell x c q
    exact ⟨v, cellK c v z⟩
  · obtain ⟨q, n, ne, nf, d⟩ := I.pin p hp
    have n1 : p.1 ≠ e := (hf e (.inl rfl)).2.2.1 p hp
    have n2 : p.1 ∉ Ts := fun z => (hf p.1 (.inr z)).2.2.1 p hp rfl
    refine ⟨A.keep p.1 p.2 q n1 n2 fun z => ?_, n, ne, nf, d⟩
    rcases List.mem_cons.mp (I.stkSub _ z) with z | z
    · exact ne z
    · exact nf z
  · refine (I.hok a o q).stay (fun b u hb hu => ?_) (fun _ z => z) fun _ _ z => z
    have hn : H b ≠ none := by
      rcases hb with rfl | hb
      · rw [q]; simp
      · rw [hb]; simp
    exact A.keep b u hu (nE b hn).1 (nE b hn).2 fun z => hn (nS b z)
/-- the heap without the exception, its traceback, the frames that run -/
abbrev hid (X : Cx) (e : Addr) (Ts : List Addr) (h : Heap) : Heap := PySem.W.hideAll h (e :: (Ts ++ frs X.stack))
theorem aft_of (I : Inv X pins σ H s) (k : (hid X e Ts s.heap).StaysIn h') (u : ∀ b o, s.heap.get? b = some o → (∀ vs, o.data ≠ .fields vs) → ∃ sl, h'.get? b = some { o with slots := sl }) : Aft X e Ts s.heap h' :=
  ⟨fun b o q n1 n2 n3 => k b o (PySem.W.hideAll_get _ q (by simp only [List.mem_cons, List.mem_append]; rintro (z | z | z); exact n1 z; exact n2 z; exact n3 z)), fun b o q hb => by
    obtain ⟨_, o', q', d⟩ := I.stack.mem hb
    rw [q] at q'
    cases q'
    exact u b o q d⟩
theorem hid_fun (I : Inv X pins σ H s) : s.heap.FunFrames (hid X e Ts s.heap) X.stack :=
  PySem.W.funFrames_hide I.stack fun env he a hfa => List.mem_cons_of_mem _ (List.mem_append_right _ (List.mem_filterMap.mpr ⟨env, he, hfa⟩))
end
end FD
namespace FD
open PySem PySem.Spec PyProof.Rows L2
section
variable {X : Cx} {pins : List (Addr × Obj)} {σ : L2.St} {H : Hp} {s : Shared} {e : Addr} {cls : Value}
/-- the traceback's head, if it has one -/
theorem Fly.imp {N N' : Addr → Prop} {h : Heap} (F : Fly N H e cls h) (k : ∀ a, N a → N' a) : Fly N' H e cls h := by
  obtain ⟨h1, h2, oe, vs, a0, q1, q2, q3, q4, q5⟩ := F
  refine ⟨h1, k _ h2, oe, vs, a0, q1, q2, q3, q4, ?_⟩
  rcases q5 with q5 | ⟨T, oT, ts, r1, r2, r3, r4, r5⟩
  · exact .inl q5
  · exact .inr ⟨T, oT, ts, r1, r2, r3, k _ r4, r5⟩
/-- an address that is hidden, and bears no frame's thing, is new -/
theorem new_of {h' : Heap} {Ts : List Addr} (I : Inv X pins σ H s) (hex : X.ex = []) (he : H e = none ∧ X.s₀.heap.get? e = none) (hT : ∀ T ∈ Ts, H T = none ∧ X.s₀.heap.get? T = none) (ff : h'.FunFrames (hid X e Ts s.heap) X.stack)
    {T : Addr} {oT : Obj} {ts : Array Value} (hn : (hid X e Ts s.heap).get? T = none) (ne : T ≠ e) (hg : h'.get? T = some oT) (hd : oT.data = .fields ts) : H T = none ∧ X.s₀.heap.get? T = none := by
  have nf : T ∉ frs X.stack := fun z => by
    obtain ⟨_, o, q, d⟩ := ff.mem z
    rw [hg] at q
    cases q
    exact d ts hd
  have out : T ∈ Ts ∨ s.heap.get? T = none := by
    cases q : s.heap.get? T with
    | none => exact .inr rfl
    | some o =>
      by_cases hm : T ∈ Ts
      · exact .inl hm
      · have := PySem.W.hideAll_get (e :: (Ts ++ frs X.stack)) q (by simp only [List.mem_cons, List.mem_append]; rintro (z | z | z); exact ne z; exact hm z; exact nf z)
        rw [hn] at this
        cases this
  rcases out with hm | hm
  · exact hT T hm
  · constructor
    · cases q : H T with
      | none => rfl
      | some u =>
        have hk := I.hok T u q
        exfalso
        have : ∃ o, s.heap.get? T = some o := by
          clear q
          induction u with
          | lst xs => obtain ⟨_, _, _, _, z⟩ := hk; exact ⟨_, z⟩
          | tup xs => obtain ⟨_, _, _, o, z, _⟩ := hk; exact ⟨_, z⟩
          | dK kvs => obtain ⟨_, _, _, _, o, _, _, z, _⟩ := hk; exact ⟨_, z⟩
          | dT kvs => obtain ⟨_, _, _, _, o, _, _, z, _⟩ := hk; exact ⟨_, z⟩
          | set S n => obtain ⟨o, _, _, _, z, _⟩ := hk; exact ⟨_, z⟩
          | ins C dx fs => obtain ⟨_, _, _, z, _⟩ := hk; exact ⟨_, z⟩
          | own y => obtain ⟨_, z⟩ := hk; exact ⟨_, z⟩
          | xd fs => obtain ⟨_, ⟨_, _, _, z, _⟩, _⟩ := hk; exact ⟨_, z⟩
          | rng lo hi => obtain ⟨_, _, _, z⟩ := hk; exact ⟨_, z⟩
          | frz ob u ih => obtain ⟨z, _⟩ := hk; exact ⟨_, z⟩
          | tbl ps => exact ⟨_, (show s.heap.get? T = some _ from hk)⟩
          | met f y => exact ⟨_, (show s.heap.get? T = some _ from hk)⟩
          | ext φ => obtain ⟨_, ⟨_, z⟩, _⟩ := hk; exact ⟨_, z⟩
        obtain ⟨o, z⟩ := this
        rw [hm] at z
        cases z
    · cases q : X.s₀.heap.get? T with
      | none => rfl
      | some o =>
        obtain ⟨o', z⟩ := I.base.there T o q (by rw [hex]; simp)
        rw [hm] at z
        cases z
/-- an exception leaves the frame -/
theorem leave_fly (I : Inv X pins σ H s) (hex : X.ex = []) (hst : X.stack = X.env :: X.outer) (hfm : X.env.frame = some X.env.locals) (F : Fly (fun a => X.s₀.heap.get? a = none) H e cls s.heap)
    {Q : Unit → Shared → Prop} {E : Value → Shared → Prop} (k : ∀ h' Ts, Fly (fun a => X.s₀.heap.get? a = none) H e cls h' → Aft X e Ts s.heap h' → (∀ b, b = e ∨ b ∈ Ts → H b = none ∧ X.s₀.heap.get? b = none ∧ ∃ o vs, s.heap.get? b = some o ∧ o.data = .fields vs) → Q () { s with heap := h' }) :
    wpAny (model X.prog X.w) X.A (leaving X.env (.ref e)) Q E s := by
  obtain ⟨f1, f2, oe, vs, a0, q1, q2, q3, q4, q5⟩ := F
  have hfr : X.A.frames = some (X.env :: X.outer) := hst ▸ I.ok.frames
  subst q2
  rcases q5 with q5 | ⟨T, oT, ts, r1, r2, r3, r4, r5, r6, r7⟩
  · have b3 : s.heap.FunFrames (hid X e [] s.heap) (X.env :: X.outer) := hst ▸ hid_fun I
    refine wpAny_leaving_firstW (base := hid X e [] s.heap) hfr b3 hfm q1 (fun b o z => PySem.W.of_hideAll _ z) (PySem.W.hideAll_none _ (List.mem_cons_self ..)) q3 q5 q4 fun h' hL => ?_
    obtain ⟨k1, k2, ⟨oe', vs', T, oT, ts, t1, ⟨t2, t3⟩, t4, t5, t6, t7, t8, t9, t10⟩, k4⟩ := hL
    have k2' : h'.FunFrames (hid X e [] s.heap) X.stack := hst ▸ k2
    have nT := new_of I hex ⟨f1, f2⟩ (fun _ z => absurd z (by simp)) k2' t6 t7 t8 t9
    refine k h' [] ⟨f1, f2, oe', vs', a0, t1, t2, t4, t3, .inr ⟨T, oT, ts, t5, t7, nT.1, nT.2, t8, t9, t10⟩⟩ (aft_of I k1 k4) fun b hb => ?_
    rcases hb with rfl | hb
    · exact ⟨f1, f2, oe, vs, q1, q3⟩
    · cases hb
  · have b3 : s.heap.FunFrames (hid X e [T] s.heap) (X.env :: X.outer) := hst ▸ hid_fun I
    have ht : s.heap.TracedW (hid X e [T] s.heap) e oe.cls a0 := ⟨oe, vs, T, oT, ts, q1, ⟨rfl, q4⟩, q3, r1, PySem.W.hideAll_none _ (by simp), r2, r5, r6, r7⟩
    refine wpAny_leaving_nextW (base := hid X e [T] s.heap) hfr b3 hfm ht (fun b o z => PySem.W.of_hideAll _ z) (PySem.W.hideAll_none _ (List.mem_cons_self ..)) fun h' hL => ?_
    obtain ⟨k1, k2, ⟨oe', vs', T', oT', ts', t1, ⟨t2, t3⟩, t4, t5, t6, t7, t8, t9, t10⟩, k4⟩ := hL
    have k2' : h'.FunFrames (hid X e [T] s.heap) X.stack := hst ▸ k2
    have nT := new_of I hex ⟨f1, f2⟩ (fun T0 z => by simp at z; subst z; exact ⟨r3, r4⟩) k2' t6 t7 t8 t9
    refine k h' [T] ⟨f1, f2, oe', vs', a0, t1, t2, t4, t3, .inr ⟨T', oT', ts', t5, t7, nT.1, nT.2, t8, t9, t10⟩⟩ (aft_of I k1 k4) fun b hb => ?_
    rcases hb with rfl | hb
    · exact ⟨f1, f2, oe, vs, q1, q3⟩
    · simp at hb
      subst hb
      exact ⟨r3, r4, oT, ts, r5, r6⟩
end
/-! ### defs that may raise -/
def CXE (P : Program) (w : World) : CXT := fun outer H s E ev s' => ∃ e cls H', ev = .ref e ∧ s'.os = s.os ∧ AllBare s'.gens ∧ Un (frs outer) [] H H' s.heap s'.heap ∧ HOk P w H' s'.heap ∧ Fly (fun a => s.heap.get? a = none) H' e cls s'.heap ∧ E cls none H'
def spE (K : PySem.W.Frag) (F : List Dv → Option (Rs Dv)) (n : Nat) : Sp := fun vs H Q E => ∃ ds, Reps K H ds vs ∧ ds.length = n ∧ match F ds with
  | some (.ok d) => ∀ v H', Same H H' → Rep K H' d v → Q v H'
  | some (.exc c) => ∀ C H', PySem.W.nsIn K mainGlobals (xnm c) = some (some (.ref C)) → Same H H' → E (.ref C) none H'
  | none => False
/-- what this body wants of exceptions, for its callees -/
def EX (X : Cx) : XK := fun cv _ H1 => ∃ c C, cv = .ref C ∧ PySem.W.nsIn X.K mainGlobals (xnm c) = some (some (.ref C)) ∧ XW X c H1
theorem passE {X : Cx} (hex : X.ex = []) : Passes (CXE X.prog X.w) X (EX X) := by
  intro pins σ H s ev s' I ⟨e, cls, H', he, os, bare, un, hok, F, c, C, hcv, hC, hx⟩
  have I' : Inv X pins σ H' s' := I.call' (ch := []) os un hok bare fun b z => absurd z (by simp)
  refine hx pins σ H' s' ev (fun _ _ z => z) I' ⟨e, C, he, hC, hcv ▸ F.imp fun a ha => ⟨?_, fun p hp z => ?_⟩⟩
  · cases q : X.s₀.heap.get? a with
    | none => rfl
    | some o =>
      obtain ⟨o', z⟩ := I.base.there a o q (by rw [hex]; simp)
      rw [ha] at z
      cases z
  · have := (I.pin p (List.mem_append_left _ hp)).1
    rw [z, ha] at this
    cases this
def fCallE (F : List Dv → Option (Rs Dv)) (n : Nat) (g : FnA) : FnE := fun ρ => bnd (g ρ) fun ds => if ds.length = n then F ds else none
def HasE (P : Program) (w : World) (K : PySem.W.Frag) (mg : Str → Option Value) (base : Heap) (x : Str) (k : Nat) (ps : List Str) (F : List Dv → Option (Rs Dv)) : Prop :=
  ∃ f fd, FnOk P w K mg base (CXE P w) k f fd ps (spE K F ps.length) ∧ mg x = some (.ref f) ∧ PySem.W.keepIn K (.ref f) = true ∧ Binds K fd ps []
section
variable {X : Cx} {k n : Nat} {ps : List Str} {x : Str} {p pos : Pos} {e : Expr} {es : List Expr} {F : List Dv → Option (Rs Dv)} {g : FnA}
theorem fe_callE {k' : Nat} (k : Nat) (ps : List Str) (F : List Dv → Option (Rs Dv)) (h : HasE X.prog X.w X.K X.mg X.base x k ps F) (hr : Room k' X.A) (hk : k ≤ k') (hex : X.ex = []) (hg : Gl X x) (ha : FA X (e :: es) g) (hn : n = ps.length := by kernel_rfl) (hdb : (x == ("__debug__" : Str)) = false := by kernel_rfl)
    (he : starEach (e :: es) X.env = (false, eval e X.env) :: starEach es X.env := by kernel_rfl) (hpl : (backTo pos (starEach es X.env)).any (·.1) = false := by kernel_rfl) :
    FE X (.Call (.Name x p) (e :: es) [] pos) (fCallE F n g) := by
  subst hn
  obtain ⟨f, fd, G, hm, hkp, hb⟩ := h
  refine fe_of (pe_call (G.mono hk) hr hg hm hkp hb .nil (passE hex) ha.h hdb he hpl) fun σ H Q ρ E o => ⟨ρ, E, OutA.bind o fun ds vs H' e rs o1 => ?_⟩
  show spE X.K F ps.length (vs ++ []) H' Q (EX X)
  rw [List.append_nil]
  by_cases hl : ds.length = ps.length
  · rw [if_pos hl] at o1
    refine ⟨ds, rs, hl, ?_⟩
    match hF : F ds with
    | none => rw [hF] at o1; exact o1.elim
    | some (.ok d) => rw [hF] at o1; exact o1
    | some (.exc c) => rw [hF] at o1; exact fun C H1 hC e1 => ⟨c, C, rfl, hC, XW.mono o1 e1⟩
  · rw [if_neg hl] at o1
    exact o1.elim
end
def runE (m : Nat) (fb : FnS) : List Dv → Option (Rs Dv) := fun ds => match fb (ds.map some ++ List.replicate (m - ds.length) none) with
  | some (.nx _) => some (.ok .non)
  | some (.rt d) => some (.ok d)
  | some (.exc c) => some (.exc c)
  | none => none
theorem xw_of {P : Program} {w : World} {K : PySem.W.Frag} {mg : Str → Option Value} {base : Heap} {N : List Str} {qual : Str} {scope : Scope} {f : Addr} {cd : Value} {A : Around} {outer : List Env} {s : Shared} {H : Hp} {E : XK} {c : Nat}
    (q : ∀ C H', PySem.W.nsIn K mainGlobals (xnm c) = some (some (.ref C)) → Same H H' → E (.ref C) none H') : XW (cxOf (CXE P w) P w K mg base N qual scope f cd A outer s H E) c H := by
  intro pins σ H' s1 ev e1 I ⟨e, C, he, hC, F⟩
  subst he
  have F' : Fly (fun a => s.heap.get? a = none) H' e (.ref C) s1.heap := F.imp fun a ha => ha.1
  refine leave_fly I rfl rfl rfl F' fun h' Ts F2 A2 hf => ?_
  have I2 := Inv.aft (pins := []) (I.pins_of (pins' := []) fun p hp => nomatch hp) A2 rfl fun b hb => ⟨(hf b hb).1, (hf b hb).2.1, fun p hp => absurd (show p ∈ ([] : List (Addr × Obj)) from hp) (by simp), (hf b hb).2.2⟩
  exact ⟨e, .ref C, H', rfl, I.os, I.bare, I2.base, I2.hok, F2, q C H' hC e1⟩
theorem fn_okE {k : Nat} {f : Addr} {fd : FuncData} {x : Str} {P : Program} {w : World} {K : PySem.W.Frag} {mg : Str → Option Value} {base : Heap} {qual : Str} {st : Stmt} {F : List Dv → Option (Rs Dv)} {n : Nat} (N ps : List Str) (fb : FnS) (hF : F = runE N.length fb) (hn : n = ps.length)
    (Fn : Fun K x qual st f fd) (S : FnScope N ps (defScope st))
    (hb : ∀ (cdv : Value) (A : Around) (outer : List Env) (s : Shared) (H : Hp) (E : XK), Room k (A.deeper (envOfC qual (defScope st) s.heap.objs.size f cdv)) → FSs (cxOf (CXE P w) P w K mg base N qual (defScope st) f cdv A outer s H E) (defBody st) fb) :
    FnOk P w K mg base (CXE P w) (k + 1) f fd ps (spE K F n) := by
  subst hF hn
  obtain ⟨oc, od, kV, doc, pm, an, cdv, ct, osl, rfl, lk, hcd⟩ := Fn.ex
  refine fn_of lk hcd S (fun vs H Q E h => ?_) fun A outer s H vs Q E hr h => ?_
  · obtain ⟨ds, r, hl, _⟩ := h
    rw [r.length, hl]
  · obtain ⟨ds, r, hl, q⟩ := h
    refine ⟨_, (hb cdv A outer s H E hr).h, ds.map some ++ List.replicate (N.length - ds.length) none, envs_start r, ?_⟩
    unfold runE at q
    match hf : fb (ds.map some ++ List.replicate (N.length - ds.length) none) with
    | none => rw [hf] at q; exact q.elim
    | some (.exc c) => rw [hf] at q; exact xw_of q
    | some (.rt d) => rw [hf] at q; exact fun v H' e r' => q v H' e r'
    | some (.nx ρ) => rw [hf] at q; exact fun σ' H' e _ => q .non H' e rfl
end FD
namespace FD
open PySem PySem.Spec PyProof.Rows L2
/-! ### raise Own(text) -/
theorem tracked_there {P : Program} {w : World} {H : Hp} {h : Heap} (ok : HOk P w H h) {a : Addr} {u : HO} (q : H a = some u) : ∃ o, h.get? a = some o := by
  have hk := ok a u q
  clear q
  induction u with
  | lst xs => obtain ⟨_, _, _, _, z⟩ := hk; exact ⟨_, z⟩
  | tup xs => obtain ⟨_, _, _, o, z, _⟩ := hk; exact ⟨_, z⟩
  | dK kvs => obtain ⟨_, _, _, _, o, _, _, z, _⟩ := hk; exact ⟨_, z⟩
  | dT kvs => obtain ⟨_, _, _, _, o, _, _, z, _⟩ := hk; exact ⟨_, z⟩
  | set S n => obtain ⟨o, _, _, _, z, _⟩ := hk; exact ⟨_, z⟩
  | ins C dx fs => obtain ⟨_, _, _, z, _⟩ := hk; exact ⟨_, z⟩
  | own y => obtain ⟨_, z⟩ := hk; exact ⟨_, z⟩
  | xd fs => obtain ⟨_, ⟨_, _, _, z, _⟩, _⟩ := hk; exact ⟨_, z⟩
  | rng lo hi => obtain ⟨_, _, _, z⟩ := hk; exact ⟨_, z⟩
  | frz ob u ih => obtain ⟨z, _⟩ := hk; exact ⟨_, z⟩
  | tbl ps => exact ⟨_, (show h.get? a = some _ from hk)⟩
  | met f y => exact ⟨_, (show h.get? a = some _ from hk)⟩
  | ext φ => obtain ⟨_, ⟨_, z⟩, _⟩ := hk; exact ⟨_, z⟩
theorem untracked {P : Program} {w : World} {H : Hp} {h : Heap} (ok : HOk P w H h) {a : Addr} (n : h.get? a = none) : H a = none := by
  cases q : H a with
  | none => rfl
  | some u =>
    obtain ⟨o, z⟩ := tracked_there ok q
    rw [n] at z
    cases z
/-- the class's object in the fragment -/
theorem own_in {K : PySem.W.Frag} {h : Heap} {mg : Str → Option Value} {x : Str} {C : Addr} {bmB : List Value} {newId : String} (X : K.In h) (hb : mg x = some (.ref C)) (q : PySem.W.excIn K C bmB newId = true) : OwnCls x C bmB newId mg h := by
  constructor
  · exact hb
  unfold PySem.W.excIn at q
  split at q
  · rename_i dd cd sl look
    split at q
    · rename_i C2 rest s0 s1 s2 s3 nid s5 em es
      simp only [Bool.and_eq_true, beq_iff_eq, Bool.not_eq_true'] at q
      have e1 := q.1.1.1.1.1
      have e2 := q.1.1.1.1.2
      have e3 := q.1.1.1.2
      have e4 := q.1.1.2
      have e5 := q.1.2
      have e6 := q.2
      clear q
      subst e1 e2
      obtain ⟨f1, f2, f3, f4, f5, f6, f7, f8, f9, f10, f11⟩ := cd
      dsimp only at em e3 e5 e6
      subst em e3
      obtain ⟨l⟩ := sl
      have e7 : l = [s0, s1, s2, s3, some (.builtin nid), s5] := es
      subst e7
      refine ⟨rest, f4, f1, f5, f2, f6, f7, f8, f9, f10, dd, s0, s1, s2, s3, s5, _, X _ _ look, .of_isNs (PySem.W.isNs_of_in X e5), ?_, PySem.W.tail_of_in X e4⟩
      exact PySem.W.nsMap_none_of_in X e5 e6
    · cases q
  · cases q
abbrev bmV : List Value := [.type "ValueError", .type "Exception", .type "BaseException", .type "object"]
/-- what the fragment knows of a refusal's class -/
structure XC (K : PySem.W.Frag) (c : Nat) (C : Addr) : Prop where
  nm : PySem.W.nsIn K mainGlobals (xnm c) = some (some (.ref C))
  ex : PySem.W.excIn K C bmV "ValueError.__new__" = true
def fRaise (c : Nat) (f : FnE) : FnS := fun ρ => bndS (f ρ) fun _ => some (.exc c)
section
variable {X : Cx} {a : Expr} {fa : FnE} {np cpos pos : Pos} {x : Str} {C : Addr}
theorem fs_raise (c : Nat) (K : XC X.K c C) (hx : xnm c = x) (hm : X.mg x = some (.ref C)) (hex : X.ex = []) (hc : X.calm = true) (hg : Gl X x) (ha : FE X a fa)
    (he : starEach [a] X.env = (false, eval a X.env) :: starEach [] X.env := by kernel_rfl) (hdb : (x == ("__debug__" : Str)) = false := by kernel_rfl) :
    FS X (.Raise (some (.Call (.Name x np) [a] [] cpos)) none pos) (fRaise c fa) := by
  subst hx
  constructor
  intro pins s σ H D I ⟨ρ, E, o⟩
  obtain ⟨tl, N, nm, q, bs, hdct, sn, sub, ab, col, dd, k0, k1, k2, k3, k5, mN, hC, hN, hni, T⟩ := (own_in I.ok.mod.kin hm K.ex).obj
  refine wpAny_Raise_call_subT (C := C) (nm := nm) (q := q) (N := N) (bs := bs) (bm := tl) (hdct := hdct) (sn := sn) (sub := sub) (ab := ab) (col := col) (dd := dd) (k0 := k0) (k1 := k1) (k2 := k2) (k3 := k3) (k5 := k5) PySem.F.excBase_ValueError (mN := mN)
    (T.hasType PySem.F.excBase_ValueError.hasBase) (I.ok.hd hc) (by rw [he]; rfl) hni (ld_glob I hg hm ⟨rfl, ?_⟩ hdb)
  have hp := (fa_cons ha fa_nil he).h cpos pins s σ H (fun vs H1 => vs.length = 1 ∧ XW X c H1) I ⟨ρ, E, ?_⟩
  · rw [he] at hp ⊢
    refine Calls.evalArgs_plain (thn hp fun us s2 ⟨vs, H1, I1, rv, hl, hw⟩ => ⟨rfl, ?_, I1.bk _ _ hC, hN.keeps I1.bk, T.keeps I1.bk, fun h' e me => ?_⟩)
    · rw [← rv.length, hl]; decide
    · have I2 : Inv X pins σ H1 { s2 with heap := h' } := I1.kept (t' := s2.toks) me.keeps
      obtain ⟨t, t1, t2, t3⟩ := me.there
      refine hw pins σ H1 _ (.ref e) (fun _ _ z => z) I2 ⟨e, C, rfl, K.nm, untracked I1.hok me.new, ⟨?_, fun p hp z => ?_⟩, _, _, .ref t, t1, rfl, rfl, rfl, .inl rfl⟩
      · cases z : X.s₀.heap.get? e with
        | none => rfl
        | some o2 =>
          obtain ⟨o3, z3⟩ := I1.base.there e o2 z (by rw [hex]; simp)
          rw [me.new] at z3
          cases z3
      · have z2 := (I1.pin p (List.mem_append_left _ hp)).1
        rw [z, me.new] at z2
        cases z2
  · show OutA X H (aCons fa aNil ρ) _
    unfold aCons
    unfold fRaise at o
    match hf : fa ρ with
    | none => rw [hf] at o; exact o.elim
    | some (.exc c2) => rw [hf] at o; exact o
    | some (.ok d) => rw [hf] at o; exact fun vs H1 e1 r => ⟨r.length, XW.mono o e1⟩
end
end FD
namespace FD
open PySem PySem.Spec PyProof.Rows L2 PySem.W Builtin.Getset_descriptor
/-! ### isinstance of an exception -/
theorem bga_plain : plainId "BaseException.__getattribute__" = true := by decide +kernel
theorem bga_kind : builtinKind "BaseException.__getattribute__" = some .slot := by decide +kernel
theorem bga_split : splitId "BaseException.__getattribute__" = some ("BaseException", "__getattribute__") := by decide +kernel
theorem bga_bind (self : Value) : bindSpecial (.builtin "BaseException.__getattribute__") self = pure (.builtin "BaseException.__getattribute__", [self]) := by
  have h1 : withoutEnding? "BaseException.__getattribute__" "#opaque" = none := by decide +kernel
  have h2 : withoutEnding? "BaseException.__getattribute__" "#data" = none := by decide +kernel
  simp only [bindSpecial, typeOf, builtinType, h1, h2, bga_kind]; rfl
section
variable {prog : Program} {w : World} {A : Around} {E : Value → Shared → Prop} {s : Shared} {K : PySem.W.Frag} {x C : Addr} {ox : Obj}
/-- what is asked of the fragment for isinstance of an exception of the class at C -/
structure XI (K : PySem.W.Frag) (C : Addr) : Prop where
  ga : findIn K (.ref C) "__getattribute__" = some (some (.builtin "BaseException.__getattribute__"))
  gt : findIn K (.ref C) "__getattr__" = some none
  cl : findIn K (.ref C) "__class__" = some (some (.builtin "object.__class__"))
  sp : specialIn K (.builtin "object.__class__") "__get__" = some (some (.builtin "getset_descriptor.__get__"))
  tk : takesIn K (.builtin "object.__class__") = some true
  ob : mroIn K C (.type "object") = some true
  be : mroIn K C (.type "BaseException") = some true
theorem ty_at (hx : s.heap.get? x = some ox) (hc : ox.cls = .ref C) {M : Model} : Looks M s.heap (typeOf (.ref x)) (.ref C) := hc ▸ (Looks.ld hx).andThen .now
theorem look_cls (X : K.In s.heap) (k : XI K C) {M : Model} : Looks M s.heap (Builtin.ObjectAttr.find (.ref x) (.ref C) "__class__") (.bind (.builtin "getset_descriptor.__get__") (.builtin "object.__class__")) := by
  have L1 := looks_findIn (M := M) X k.cl
  have L2 := looks_specialIn (M := M) X k.sp
  have L3 := looks_takesIn (M := M) X k.tk
  intro A2 Q2 E2 s2 k2 q2
  unfold Builtin.ObjectAttr.find
  refine wpAny_bind (L1 A2 _ E2 s2 k2 (wpAny_bind (L2 A2 _ E2 s2 k2 (wpAny_bind ?_))))
  unfold Builtin.ObjectAttr.dataDescriptor?
  refine wpAny_bind (L3 A2 _ E2 s2 k2 ?_)
  rw [if_pos rfl]
  exact wpAny_pure (wpAny_bind (wpAny_rule (wpAny_pure q2)))
theorem cls_of {R : Result → Shared → Prop} {tp : Value} (X : K.In s.heap) (hx : s.heap.get? x = some ox) (hc : ox.cls = .ref C) (hm : mroIn K C (.type "object") = some true)
    (h : R (.ok (.ret (.ref C))) s) : codeAny (model prog w) A (.call (.builtin "getset_descriptor.__get__") ⟨[.builtin "object.__class__", .ref x, tp], []⟩) R s := by
  have L0 := ty_at (M := model prog w) hx hc
  have L1 := looks_mroIn (M := model prog w) X hm
  obtain ⟨hh, g, dr, t, os⟩ := s
  refine codeAny_call_builtin KF.slot_gs.plain KF.entry_gs (KF.slot_gs.check _ _ _ _ _ _ _ _ KF.type_class (KF.args_gs _ _ _) ?_)
  unfold Builtin.«getset_descriptor.__get__» descrGet
  rw [dga_obj]
  refine wpAny_bind (wpAny_pure ?_)
  unfold descrGetter descrCheckInstance descrNameAndClass isInstance
  simp only [KF.owner_class]
  repeat lk
  refine ⟨Code.quiet_builtin _ (by decide +kernel), codeAny_builtin KF.entry_class ?_⟩
  unfold Builtin.«object.__class__» shownTypeOf
  repeat lk
  exact h
theorem exn_class {Q : Option Value → Shared → Prop} (X : K.In s.heap) (hx : s.heap.get? x = some ox) (hc : ox.cls = .ref C) (k : XI K C)
    (h : Q (some (.ref C)) { s with toks := s.toks + 1 }) : wpAny (model prog w) A (getAttr? (.ref x) "__class__") Q E s := by
  have L0 := ty_at (M := model prog w) hx hc
  have L2 := look_cls (M := model prog w) (x := x) X k
  obtain ⟨hh, g, d, t, os⟩ := s
  have L1 := looks_findIn (M := model prog w) X k.ga
  have L3 := looks_findIn (M := model prog w) X k.gt
  have LB := looks_mroIn (M := model prog w) X k.be
  unfold getAttr? getAttrBy? getAttrBy
  refine wpAny_bind (wpAny_mkText (wpAny_bind (wpAny_attempt (wpAny_holding (wpAny_bind (L0.at (wpAny_bind (L1.at ?_))))))))
  have hne : (Value.builtin "BaseException.__getattribute__" == Value.builtin "object.__getattribute__") = false := by decide +kernel
  dsimp only
  rw [hne, Bool.and_false, if_neg Bool.false_ne_true]
  unfold getAttrByItsOwn
  refine wpAny_bind ?_
  show wpAny _ _ (typeLookup (.ref C) "__getattr__") _ _ _
  refine L3.at ?_
  refine wpAny_bind (wpAny_attempt (wpAny_holding ?_))
  unfold callGetattribute boundAndCalled
  rw [if_neg (by decide)]
  rw [bga_bind]
  refine wpAny_bind (wpAny_pure ?_)
  refine wpAny_call (codeAny_call_builtin bga_plain F.entry_bexc_ga ?_)
  simp only [checkBuiltinCall, bga_kind, bga_split]
  have ha := F.args_bexc_ga (.ref x) (.str "__class__" t)
  have LI : Looks (model prog w) hh (isInstance (.ref x) (.type "BaseException")) true := L0.andThen LB
  show wpAny _ _ (isInstance (.ref x) (.type "BaseException") >>= _) _ _ _
  refine wpAny_bind (LI.at ?_)
  simp only [Bool.not_true, Bool.false_eq_true, if_false]
  have hz : hh.get? x = some ox ∧ True := ⟨hx, trivial⟩
  clear hx
  repeat (any_goals (first | assumption | wp_step))
  have hx' := hz.1
  refine wpAny_loadPart_at hx' ?_
  refine wpAny_pure ?_
  rw [hc]
  refine wpAny_bind (L2.at ?_)
  dsimp only
  unfold Builtin.ObjectAttr.bindTo
  dsimp only
  refine wpAny_bind (wpAny_holding (wpAny_call (cls_of (s := ⟨hh, g, d, t + 1, os⟩) (ox := ox) X hx' hc k.ob ?_)))
  refine wpAny_pure ?_
  show wpAny _ _ (handedOut (.ref C)) _ _ _
  rw [handedOut_of rfl]
  exact wpAny_pure (wpAny_pure h)
theorem clsIn_of {K : PySem.W.Frag} {C : Addr} {b : Value} {r : Bool} (h : mroIn K C b = some r) : ∃ cd, clsIn K C = some cd := by
  unfold mroIn at h
  cases q : clsIn K C with
  | none => rw [q] at h; cases h
  | some cd => exact ⟨cd, rfl⟩
theorem kitx_exn {K : PySem.W.Frag} {x C : Addr} {ox : Obj} (k : XI K C) (hc : ox.cls = .ref C) : KitX K (.ref x) (.ref C) (fun h => h.get? x = some ox) where
  ty := fun M h _ q => hc ▸ (Looks.ld q).andThen .now
  it := fun _ _ X _ => by
    obtain ⟨cd, hc⟩ := clsIn_of k.ob
    unfold clsIn at hc
    split at hc
    · rename_i look
      intro A2 Q2 E2 s2 k2 q2
      unfold isType loadHead
      exact wpAny_bind (wpAny_loadPart (k2 _ _ (X _ _ look)) (wpAny_pure q2))
    · cases hc
  ne := fun h tp dd its n sl X htp => by
    obtain ⟨cd, hc⟩ := clsIn_of k.ob
    cases z : (Value.ref C == Value.ref tp) with
    | false => rfl
    | true =>
      have e := Value.ref.inj (beq_iff_eq.mp z)
      subst e
      unfold clsIn at hc
      split at hc
      · rename_i look
        cases (X _ _ look).symm.trans htp
      · cases hc
  ca := fun X q z => exn_class X q hc k z
end
/-- isinstance(e, T) -/
def isX (tb : Nat → Option Bool) : Dv → Option (Rs Dv)
  | .exn c => match tb c with
    | some b => some (.ok (.bl b))
    | none => none
  | _ => none
/-- what the fragment knows of the refusals' classes, and of T beside them -/
def XT (K : PySem.W.Frag) (tb : Nat → Option Bool) (T : Value) : Prop := ∀ c b, tb c = some b → ∀ C, nsIn K mainGlobals (xnm c) = some (some (.ref C)) → XI K C ∧ kitOne K (.ref C) T = some b
section
variable {X : Cx} {p pos pT : Pos} {a : Expr} {fa : FnE} {T : Str}
theorem call_isx {tv : V} {tval : Value} (rt : ∀ u, RelV tv u → u = tval) {tb : Nat → Option Bool} (k : XT X.K tb tval) : CallR X (.builtin "isinstance") (fun xs H Q => ∃ v c b, xs = [v, tv] ∧ Rep X.K H (.exn c) v ∧ tb c = some b ∧ Q (.bl b) H) := by
  intro pins s σ H xs us Q I r h
  obtain ⟨v, c, b, rfl, rv, hb, q⟩ := h
  obtain ⟨a, o, u, C, rfl, hH, hc, hn⟩ := rv.exnE
  obtain ⟨u1, u2, rfl, r1, r2⟩ := vals2 r
  cases (show u1 = Value.ref a from r1)
  cases (rt u2 r2)
  obtain ⟨xi, kk⟩ := k c b hb C hn
  have hg : s.heap.get? a = some o := (I.hok a _ hH).1
  exact kia_one (kitx_exn xi hc) I.kIn hg kk (by intro z; cases z) fun tk => ⟨.bl b, H, I.tok tk, rfl, q⟩
/-- T an own class -/
theorem fe_isO {tb : Nat → Option Bool} {CT : Addr} (k : XT X.K tb (.ref CT)) (hT : X.mg T = some (.ref CT)) (hgT : Gl X T) (hdT : (T == ("__debug__" : Str)) = false) (hg : Gl X "isinstance") (hm : X.mg "isinstance" = none) (ha : FE X a fa)
    (hs1 : starEach [a, .Name T pT] X.env = (false, eval a X.env) :: starEach [.Name T pT] X.env := by kernel_rfl) (hs2 : starEach [.Name T pT] X.env = (false, eval (.Name T pT) X.env) :: starEach [] X.env := by kernel_rfl)
    (hpl : (backTo pos (starEach [.Name T pT] X.env)).any (·.1) = false := by kernel_rfl) :
    FE X (.Call (.Name "isinstance" p) [a, .Name T pT] [] pos) (f1 (isX tb) fa) :=
  fe_of (pe_callB (call_isx (tv := .ref CT) (fun u z => z) k) hg hm PyProof.Rows.boot_isinstance (pa_cons ha.h (pa_cons (pe_glob (v := .ref CT) hgT hT rfl hdT) pa_nil hs2) hs1) (by decide) (by decide) hs1 hpl) fun σ H Q ρ E o => ⟨ρ, E, Out.bind o fun d v H1 e1 r o1 => by
    show ∃ v2 c b, [v, V.ref CT] = [v2, V.ref CT] ∧ _
    cases d with
    | exn c =>
      have o2 : Out X H1 (match tb c with | some b => some (.ok (.bl b)) | none => none) Q := o1
      cases q : tb c with
      | none => rw [q] at o2; exact o2.elim
      | some b => rw [q] at o2; exact ⟨v, c, b, rfl, r, q, o2 _ H1 (.refl H1) rfl⟩
    | _ => exact o1.elim⟩
/-- T a built-in type -/
theorem fe_isB {T : String} {tb : Nat → Option Bool} (k : XT X.K tb (.type T)) (hT : bootBuiltins (Str.ofString T) = some (.type T)) (hn : Str.ofString T ≠ "__name__") (hdT : (Str.ofString T == ("__debug__" : Str)) = false)
    (hg : Gl X "isinstance") (hm : X.mg "isinstance" = none) (hgT : Gl X (Str.ofString T)) (hmT : X.mg (Str.ofString T) = none) (ha : FE X a fa)
    (hs1 : starEach [a, .Name (Str.ofString T) pT] X.env = (false, eval a X.env) :: starEach [.Name (Str.ofString T) pT] X.env := by kernel_rfl) (hs2 : starEach [.Name (Str.ofString T) pT] X.env = (false, eval (.Name (Str.ofString T) pT) X.env) :: starEach [] X.env := by kernel_rfl)
    (hpl : (backTo pos (starEach [.Name (Str.ofString T) pT] X.env)).any (·.1) = false := by kernel_rfl) :
    FE X (.Call (.Name "isinstance" p) [a, .Name (Str.ofString T) pT] [] pos) (f1 (isX tb) fa) :=
  fe_of (pe_callB (call_isx (tv := .ty T) (fun u z => z) k) hg hm PyProof.Rows.boot_isinstance (pa_cons ha.h (pa_cons (pe_bltn (v := .ty T) hgT hmT hT rfl hn hdT) pa_nil hs2) hs1) (by decide) (by decide) hs1 hpl) fun σ H Q ρ E o => ⟨ρ, E, Out.bind o fun d v H1 e1 r o1 => by
    show ∃ v2 c b, [v, V.ty T] = [v2, V.ty T] ∧ _
    cases d with
    | exn c =>
      have o2 : Out X H1 (match tb c with | some b => some (.ok (.bl b)) | none => none) Q := o1
      cases q : tb c with
      | none => rw [q] at o2; exact o2.elim
      | some b => rw [q] at o2; exact ⟨v, c, b, rfl, r, q, o2 _ H1 (.refl H1) rfl⟩
    | _ => exact o1.elim⟩
end
end FD
namespace FD
open PySem PySem.Spec PyProof.Rows L2 PySem.W
/-! ### a name is unbound -/
section
variable {X : Cx} {pins : List (Addr × Obj)} {σ : L2.St} {H : Hp} {s : Shared}
theorem unbind_ok {M : Model} {A : Around} {E : Value → Shared → Prop} {i : Nat} {x : Str} {v : V} {pos : Pos} {Q : Unit → Shared → Prop} (I : Inv X pins σ H s) (hN : X.N.Nodup) (hi : X.N[i]? = some x) (hk : X.env.scope.names.lookup x = some .local) (hv : σ[i]? = some (some v))
    (h : ∀ s', Inv X pins (σ.set i none) H s' → Q () s') : wpAny M A (unbindBehindTheSuite X.env x pos) Q E s := by
  obtain ⟨m, hn, hl⟩ := id I.loc
  have hkd : X.env.kindOf x = some .local := hk
  obtain ⟨u, ru, lk⟩ := hl i x v hi hv (.inl hk)
  have hm : m x = some u := by
    rcases lk with ⟨_, z⟩ | ⟨z, _⟩
    · exact z
    · rw [hkd] at z
      rcases z with z | z <;> cases z
  have hcls : (X.env.scope.kind == .class || (X.env.scope.kind == .module && X.env.locals != X.env.globals)) = false := by rw [I.ok.kind]; rfl
  have cne := I.cne
  obtain ⟨oL, _, _, hoL, _⟩ := id hn
  refine wpAny_onRaise (wpAny_unbindName_local hkd hn hm hcls fun h' w hn' hs => ?_)
  refine h _ ⟨I.ok, I.os, I.bare, ⟨fun b o e n hb hx => ?_, fun b o e n hb hx => ?_, I.base.free, fun b o e hx => ?_, I.base.tups, I.base.frzs, I.base.tbls⟩, ⟨_, hn', fun j y v' e1 e2 e3 => ?_⟩, fun y c e => ?_, I.free, I.freeC, fun p hp => ?_, fun b ob e => ?_, by simpa using I.len⟩
  · exact (hs.2 b (Nat.ne_of_lt (Nat.lt_of_lt_of_le (Heap.lt_size e) I.ok.above))).trans (I.base.keep b o e n hb hx)
  · obtain ⟨sl, e1⟩ := I.base.slot b o e n hb hx
    exact ⟨sl, (hs.2 b (Nat.ne_of_lt (Nat.lt_of_lt_of_le (Heap.lt_size e) I.ok.above))).trans e1⟩
  · obtain ⟨o', e1⟩ := I.base.there b o e hx
    exact ⟨o', (hs.2 b (Nat.ne_of_lt (Nat.lt_of_lt_of_le (Heap.lt_size e) I.ok.above))).trans e1⟩
  · by_cases hj : j = i
    · subst hj
      have hjl : j < σ.length := by rw [I.len]; exact (List.getElem?_eq_some_iff.mp hi).1
      rw [List.getElem?_set_self hjl] at e2
      cases e2
    · rw [List.getElem?_set_ne (Ne.symm hj)] at e2
      obtain ⟨u', r', q⟩ := hl j y v' e1 e2 e3
      refine ⟨u', r', ?_⟩
      rcases q with ⟨k, e⟩ | ⟨k, c, e, z⟩
      · refine .inl ⟨k, ?_⟩
        have : y ≠ x := fun e => hj (nodup_ix hN e1 (e ▸ hi))
        simp [this, e]
      · exact .inr ⟨k, c, e, z.sameBut hs (cne y c e)⟩
  · obtain ⟨w', z⟩ := I.cell y c e
    exact ⟨w', z.sameBut hs (cne y c e)⟩
  · obtain ⟨e, n, ne, nf, d⟩ := I.pin p hp
    exact ⟨(hs.2 p.1 ne).trans e, n, ne, nf, d⟩
  · refine (I.hok b ob e).stay (fun c w' hc q => (hs.2 c ?_).trans q) (fun _ q => q) fun _ _ q => q
    rintro rfl
    rcases hc with hc | hc
    · rw [← hc, I.free] at e; cases e
    · rw [I.free] at hc; cases hc
/-- an untracked thing is frozen -/
theorem Inv.freeze {e : Addr} {oe : Obj} {vs : Array Value} (I : Inv X pins σ H s) (he : H e = none) (hg : s.heap.get? e = some oe) (hd : oe.data = .fields vs) (h0 : X.s₀.heap.get? e = none) (hp : ∀ p ∈ X.pn ++ pins, p.1 ≠ e) :
    Inv X pins σ (upd H e (.frz oe (.ext fun _ => True))) s := by
  have ne : ∀ b u, H b = some u → b ≠ e := fun b u q => ne_of_none q he
  refine ⟨I.ok, I.os, I.bare, ⟨I.base.keep, I.base.slot, fun b o q n hx => ?_, I.base.there, fun b xs q => ?_, fun b o u q => ?_, fun b ps q => ?_⟩, I.loc, I.cell, ?_, fun x c q => ?_, fun p hp' => ?_, fun b u q => ?_, I.len⟩
  · have hb : b ≠ e := fun z => by rw [z, h0] at q; cases q
    rw [upd_ne hb]
    exact I.base.free b o q n hx
  · have q' := I.base.tups b xs q
    rw [upd_ne (ne b _ q')]
    exact q'
  · have q' := I.base.frzs b o u q
    rw [upd_ne (ne b _ q')]
    exact q'
  · obtain ⟨more, q'⟩ := I.base.tbls b ps q
    exact ⟨more, by rw [upd_ne (ne b _ q')]; exact q'⟩
  · obtain ⟨m, ⟨o, es, ep, ho, hdd, _⟩, _⟩ := I.loc
    have hb : X.env.locals ≠ e := fun z => by rw [z, hg] at ho; cases ho; rw [hd] at hdd; cases hdd
    rw [upd_ne hb]
    exact I.free
  · obtain ⟨v, o, ho, hdd⟩ := I.cell x c q
    have hb : c ≠ e := fun z => by rw [z, hg] at ho; cases ho; rw [hd] at hdd; cases hdd
    rw [upd_ne hb]
    exact I.freeC x c q
  · obtain ⟨q1, q2, q3⟩ := I.pin p hp'
    exact ⟨q1, by rw [upd_ne (hp p hp')]; exact q2, q3⟩
  · by_cases hb : b = e
    · subst hb
      rw [upd_same] at q
      cases q
      exact ⟨hg, trivial, ⟨oe, hg⟩, fun _ _ _ _ => trivial⟩
    · rw [upd_ne hb] at q
      exact (I.hok b u q).stay (fun _ _ _ z => z) (fun c z => by rw [upd_ne (ne c _ z)]; exact z) fun c xs z => by rw [upd_ne (ne c _ z)]; exact z
end
/-! ### calls from within an except suite -/
structure RoomM (k : Nat) (A : Around) : Prop where
  dp : A.depth + 3 * k + 5 < recursionLimit
  un : A.units + 16 * k + 200 < cLine
theorem RoomM.of {k : Nat} {A : Around} (r : Room k A) : RoomM k A := ⟨r.dp, r.un⟩
theorem RoomM.mono {j k : Nat} {A : Around} (r : RoomM k A) (h : j ≤ k) : RoomM j A := ⟨by have := r.dp; omega, by have := r.un; omega⟩
theorem RoomM.deeper {k : Nat} {A : Around} (r : RoomM (k + 1) A) (env : Env) : RoomM k (A.deeper env) :=
  ⟨by have := r.dp; show A.depth + 1 + 3 * k + 5 < _; omega, by have := r.un; show A.units + 3 + 16 * k + 200 < _; omega⟩
theorem RoomM.units {k : Nat} {A : Around} (r : RoomM k A) : A.units + 64 < cLine := by have := r.un; omega
structure FnM (P : Program) (w : World) (K : PySem.W.Frag) (mg : Str → Option Value) (base : Heap) (k : Nat) (f : Addr) (fd : FuncData) (ps : List Str) (F : List Dv → Option (Rs Dv)) : Prop where
  run : ∀ (A : Around) (outer : List Env) (s : Shared) (H : Hp) (args : Args) (us : List Value) (vs : List V) (ds : List Dv) (d : Dv) (Q : VK), RoomM k A → Env0 P w K mg base A outer s H → BindsTo s fd args (ps.zip us) → Vals vs us →
    Reps K H ds vs → ds.length = ps.length → F ds = some (.ok d) → (∀ v H', Same H H' → Rep K H' d v → Q v H') → codeAny (model P w) A (.call (.ref f) args) (CR CX0 outer P w H s Q E0) s
def HasM (P : Program) (w : World) (K : PySem.W.Frag) (mg : Str → Option Value) (base : Heap) (x : Str) (k : Nat) (ps : List Str) (F : List Dv → Option (Rs Dv)) : Prop :=
  ∃ f fd, FnM P w K mg base k f fd ps F ∧ mg x = some (.ref f) ∧ PySem.W.keepIn K (.ref f) = true ∧ Binds K fd ps []
section
variable {X : Cx} {x : Str} {p pos : Pos} {e : Expr} {es : List Expr} {g : FnA} {n : Nat}
theorem fe_callM {k' : Nat} (k : Nat) (ps : List Str) (F : List Dv → Option (Rs Dv)) (h : HasM X.prog X.w X.K X.mg X.base x k ps F) (hr : RoomM k' X.A) (hk : k ≤ k') (hg : Gl X x) (ha : FA X (e :: es) g) (hn : n = ps.length := by kernel_rfl) (hdb : (x == ("__debug__" : Str)) = false := by kernel_rfl)
    (he : starEach (e :: es) X.env = (false, eval e X.env) :: starEach es X.env := by kernel_rfl) (hpl : (backTo pos (starEach es X.env)).any (·.1) = false := by kernel_rfl) :
    FE X (.Call (.Name x p) (e :: es) [] pos) (fCall F n g) := by
  subst hn
  obtain ⟨f, fd, G, hm, hkp, hb⟩ := h
  constructor
  intro pins s σ H Q I ⟨ρ, E, o⟩
  have hp : wpAny (model X.prog X.w) X.A (spliced (backTo pos (starEach (e :: es) X.env))) (AP X pins σ fun vs H1 => ∃ ds, Reps X.K H1 ds vs ∧ ds.length = ps.length ∧ ∃ d, F ds = some (.ok d) ∧ ∀ v H', Same H1 H' → Rep X.K H' d v → Q v H') X.xe s := by
    refine ha.h pos pins s σ H _ I ⟨ρ, E, OutA.bind o fun ds vs H' e rs o1 => ?_⟩
    by_cases hl : ds.length = ps.length
    · rw [if_pos hl] at o1
      refine ⟨ds, rs, hl, ?_⟩
      match hF : F ds with
      | none => rw [hF] at o1; exact o1.elim
      | some (.exc c) => rw [hF] at o1; exact o1.elim
      | some (.ok d) => rw [hF] at o1; exact ⟨d, rfl, o1⟩
    · rw [if_neg hl] at o1
      exact o1.elim
  refine wpAny_Call_Name_kw (ld_glob I hg hm ?_ hdb)
  refine PySem.W.callWith_K (h₀ := X.base) I.ok.mod.kin hkp (thn hp fun us s1 ⟨vs, H1, I1, r, ds, rs, hl, d, hF, q⟩ => ⟨I1.kIn, ?_⟩) he hpl
  have hlen : us.length = ps.length := by rw [← r.length, rs.length, hl]
  have hb' : BindsTo s1 fd ⟨us, []⟩ (ps.zip us) := by
    have z := hb s1 us I1.kIn (by rw [List.append_nil]; exact hlen)
    rw [List.append_nil] at z
    exact z
  refine wpAny_call (codeAny_mono (G.run X.A X.stack s1 H1 ⟨us, []⟩ us vs ds d Q (hr.mono hk) I1.env0 hb' r rs hl hF q) fun r s' hq => ?_)
  cases r with
  | error e => exact hq.elim
  | ok fl =>
    cases fl with
    | ret u => exact I1.after hq
    | next => exact False.elim hq
    | brk => exact False.elim hq
    | cont => exact False.elim hq
end
/-- the context of a def's body that is called from within an except suite -/
def cxM (P : Program) (w : World) (K : PySem.W.Frag) (mg : Str → Option Value) (base : Heap) (N : List Str) (qual : Str) (scope : Scope) (f : Addr) (cd : Value) (A : Around) (outer : List Env) (s : Shared) (H : Hp) : Cx :=
  { cxOf CX0 P w K mg base N qual scope f cd A outer s H E0 with calm := false, xe := fun _ _ => False }
theorem fn_okM {k : Nat} {f : Addr} {fd : FuncData} {x : Str} {P : Program} {w : World} {K : PySem.W.Frag} {mg : Str → Option Value} {base : Heap} {qual : Str} {st : Stmt} {F : List Dv → Option (Rs Dv)} (N ps : List Str) (fb : FnS) (hF : F = runF N.length fb)
    (Fn : Fun K x qual st f fd) (S : FnScope N ps (defScope st))
    (hb : ∀ (cdv : Value) (A : Around) (outer : List Env) (s : Shared) (H : Hp), RoomM k (A.deeper (envOfC qual (defScope st) s.heap.objs.size f cdv)) → FSs (cxM P w K mg base N qual (defScope st) f cdv A outer s H) (defBody st) fb) :
    FnM P w K mg base (k + 1) f fd ps F := by
  subst hF
  obtain ⟨oc, od, kV, doc, pm, an, cdv, ct, osl, rfl, lk, hcd⟩ := Fn.ex
  refine ⟨fun A outer s H args us vs ds d Q hr e0 hbd r rs hl hF q => ?_⟩
  have hlv : vs.length = ps.length := by rw [rs.length, hl]
  have KX : K.In s.heap := e0.mod.kin.keeps fun b o e => (e0.bs b o e).1
  have lim : s.heap.NoLimit := e0.mod.nolimit.keeps fun b o e => (e0.bs b o e).1
  have hkind : ∀ y ∈ ps.zip us, (defScope st).names.lookup y.1 = some .local ∨ ((defScope st).names.lookup y.1 = some .cell ∧ ((cellsFrom (s.heap.objs.size + 1) (defScope st).names []).lookup y.1).isSome = true) := fun ⟨n, v⟩ hy => by
    rcases S.par n (List.of_mem_zip hy).1 with z | z
    · exact .inl z
    · exact .inr ⟨z, PySem.W.cellsFrom_some _ _ _ (.inl z)⟩
  have hdp : A.depth < recursionLimit := by have := hr.dp; omega
  refine codeAny_call_function hdp (KX _ _ lk) rfl S.co S.gen rfl (PySem.W.codeRec_of KX hcd) (hbd _ _ _ _ ?_)
  refine wpAny_newFunctionEnv_cells S.kind hkind fun env he s1 x => ?_
  subst he
  refine ⟨lim.keeps x.toInCall.keep, codeAny_func ?_⟩
  have e1 : Env0 P w K mg base { A with handled := none } outer s H := ⟨e0.frames, e0.mod, e0.bs, e0.bsz, e0.funs, e0.frf, e0.hok, e0.bare⟩
  have I0 : Inv (cxOf CX0 P w K mg base N qual (defScope st) f cdv { A with handled := none } outer s H E0) [] (start N vs) H s1 := inv_start S rfl e1 hlv r x
  have I : Inv (cxM P w K mg base N qual (defScope st) f cdv A outer s H) [] (start N vs) H s1 :=
    ⟨⟨I0.ok.mod, I0.ok.kind, I0.ok.glob, I0.ok.blt, I0.ok.above, I0.ok.inj, I0.ok.has, I0.ok.cab, (fun z => absurd z Bool.false_ne_true), Around.frames_deeper e0.frames, I0.ok.stk, I0.ok.exf, I0.ok.bs, I0.ok.bsz, I0.ok.noex, I0.ok.exfs, I0.ok.funs, I0.ok.frf⟩,
      I0.os, I0.bare, I0.base, I0.loc, I0.cell, I0.free, I0.freeC, I0.pin, I0.hok, I0.len⟩
  have fin : ∀ {s' : Shared} {σ' : L2.St} {H' : Hp} {v : V} {u : Value}, Inv (cxM P w K mg base N qual (defScope st) f cdv A outer s H) [] σ' H' s' → RelV v u → Q v H' → CE outer P w H s Q u s' := fun {s' σ' H' v u} J rv q => ⟨v, H', J.os, J.bare, J.base, J.hok, rv, q⟩
  have hq : OutS (cxM P w K mg base N qual (defScope st) f cdv A outer s H) H (fb (ds.map some ++ List.replicate (N.length - ds.length) none)) { nx := fun _ H' => Q .non H', rt := Q } := by
    unfold runF at hF
    match hf : fb (ds.map some ++ List.replicate (N.length - ds.length) none) with
    | none => rw [hf] at hF; cases hF
    | some (.exc c) => rw [hf] at hF; cases hF
    | some (.rt d') => rw [hf] at hF; cases hF; exact q
    | some (.nx ρ) => rw [hf] at hF; cases hF; exact fun σ' H' e _ => q .non H' e rfl
  refine wpAny_mono ((hb cdv A outer s H (hr.deeper _)).h [] s1 (start N vs) H _ I ⟨_, envs_start rs, hq⟩) (fun fl s' hs => ?_) fun e s' hs => hs.elim
  cases fl with
  | ret u =>
    obtain ⟨v, σ', H', J, rv, z⟩ := hs
    exact fin J rv z
  | next =>
    obtain ⟨σ', H', J, z⟩ := hs
    exact fin (v := V.non) (u := Value.none) J rfl z
  | brk =>
    obtain ⟨_, _, _, z⟩ := hs
    exact False.elim z
  | cont =>
    obtain ⟨_, _, _, z⟩ := hs
    exact False.elim z
end FD
namespace FD
open PySem PySem.Spec PyProof.Rows L2 PySem.W
/-! ### try: return .. except Own as x: return .. -/
abbrev tryX (X : Cx) (pl : List (Addr × Obj)) (E : Value → Shared → Prop) : Cx := { X with pn := X.pn ++ pl, xe := E }
abbrev handX (X : Cx) (pl : List (Addr × Obj)) (e : Addr) : Cx := { X with A := X.A.mark (some (.ref e)), calm := false, pn := X.pn ++ pl, xe := fun _ _ => False }
section
variable {X : Cx} {pl ps : List (Addr × Obj)} {σ : L2.St} {H : Hp} {s : Shared} {E : Value → Shared → Prop} {e : Addr}
theorem inv_try (I : Inv X pl σ H s) : Inv (tryX X pl E) [] σ H s :=
  ⟨⟨I.ok.mod, I.ok.kind, I.ok.glob, I.ok.blt, I.ok.above, I.ok.inj, I.ok.has, I.ok.cab, I.ok.hd, I.ok.frames, I.ok.stk, I.ok.exf, I.ok.bs, I.ok.bsz, I.ok.noex, I.ok.exfs, I.ok.funs, I.ok.frf⟩,
    I.os, I.bare, I.base, I.loc, I.cell, I.free, I.freeC, fun p hp => I.pin p (by simpa using hp), I.hok, I.len⟩
theorem inv_untry (I : Inv (tryX X pl E) ps σ H s) : Inv X pl σ H s :=
  ⟨⟨I.ok.mod, I.ok.kind, I.ok.glob, I.ok.blt, I.ok.above, I.ok.inj, I.ok.has, I.ok.cab, I.ok.hd, I.ok.frames, I.ok.stk, I.ok.exf, I.ok.bs, I.ok.bsz, I.ok.noex, I.ok.exfs, I.ok.funs, I.ok.frf⟩,
    I.os, I.bare, I.base, I.loc, I.cell, I.free, I.freeC, fun p hp => I.pin p (List.mem_append_left _ hp), I.hok, I.len⟩
theorem inv_hand (I : Inv X pl σ H s) : Inv (handX X pl e) [] σ H s :=
  ⟨⟨I.ok.mod, I.ok.kind, I.ok.glob, I.ok.blt, I.ok.above, I.ok.inj, I.ok.has, I.ok.cab, fun z => absurd z Bool.false_ne_true, I.ok.frames, I.ok.stk, I.ok.exf, I.ok.bs, I.ok.bsz, I.ok.noex, I.ok.exfs, I.ok.funs, I.ok.frf⟩,
    I.os, I.bare, I.base, I.loc, I.cell, I.free, I.freeC, fun p hp => I.pin p (by simpa using hp), I.hok, I.len⟩
theorem inv_unhand (ok : X.Ok) (I : Inv (handX X pl e) ps σ H s) : Inv X pl σ H s :=
  ⟨ok, I.os, I.bare, I.base, I.loc, I.cell, I.free, I.freeC, fun p hp => I.pin p (List.mem_append_left _ hp), I.hok, I.len⟩
/-- an exception is looked at in its frame: behind noteFrame and setFlight -/
theorem note_fly {Y : Cx} (I : Inv Y ps σ H s) (hex : Y.ex = []) (hst : Y.stack = Y.env :: Y.outer) (hfm : Y.env.frame = some Y.env.locals) {cls : Value} (F : Fly (newX Y) H e cls s.heap)
    {Q : Unit → Shared → Prop} {E1 E2 : Value → Shared → Prop} (k : ∀ h' Ts a0, (hid Y e Ts s.heap).StaysIn h' → h'.FunFrames (hid Y e Ts s.heap) Y.stack → h'.TracedW (hid Y e Ts s.heap) e cls a0 →
      (∀ b o, s.heap.get? b = some o → (∀ vs, o.data ≠ .fields vs) → ∃ sl, h'.get? b = some { o with slots := sl }) →
      (∀ b, b = e ∨ b ∈ Ts → H b = none ∧ newX Y b ∧ ∃ o vs, s.heap.get? b = some o ∧ o.data = .fields vs) → Q () { s with heap := h' }) :
    wpAny (model Y.prog Y.w) Y.A (noteFrame (.ref e) Y.env) (fun _ s2 => wpAny (model Y.prog Y.w) Y.A (setFlight (.ref e) none) Q E1 s2) E2 s := by
  obtain ⟨f1, f2, oe, vs, a0, q1, q2, q3, q4, q5⟩ := F
  have hfr : Y.A.frames = some (Y.env :: Y.outer) := hst ▸ I.ok.frames
  subst q2
  rcases q5 with q5 | ⟨T, oT, ts, r1, r2, r3, r4, r5, r6, r7⟩
  · have b3 : s.heap.FunFrames (hid Y e [] s.heap) (Y.env :: Y.outer) := hst ▸ hid_fun I
    have go : ∀ h', Heap.NotedW (hid Y e [] s.heap) (Y.env :: Y.outer) e oe.cls a0 (rawInt Y.env.locals) s.heap h' → wpAny (model Y.prog Y.w) Y.A (setFlight (.ref e) none) Q E1 { s with heap := h' } := fun h' ⟨k1, k2, k3, k4⟩ =>
      wpAny_setFlight_noneW (s := { s with heap := h' }) k1 k2 k3 fun h2 m1 m2 m3 m4 => k h2 [] a0 m1 (hst ▸ m2) m3 (fun b o q d => by
        obtain ⟨sl, q'⟩ := k4 b o q d
        exact ⟨sl, m4 b _ q' d⟩) fun b hb => by
          rcases hb with rfl | hb
          · exact ⟨f1, f2, oe, vs, q1, q3⟩
          · cases hb
    unfold noteFrame
    simp only [hfm]
    refine wpAny_bind (wpAny_field q1 q3 q5 ?_)
    rw [if_neg (by decide)]
    exact wpAny_entryW hfr b3 hfm q1 (fun b o z => PySem.W.of_hideAll _ z) (PySem.W.hideAll_none _ (List.mem_cons_self ..)) q3 (Array.getElem?_eq_some_iff.mp q5).1 q4 go
  · have b3 : s.heap.FunFrames (hid Y e [T] s.heap) (Y.env :: Y.outer) := hst ▸ hid_fun I
    have ht : s.heap.TracedW (hid Y e [T] s.heap) e oe.cls a0 := ⟨oe, vs, T, oT, ts, q1, ⟨rfl, q4⟩, q3, r1, PySem.W.hideAll_none _ (by simp), r2, r5, r6, r7⟩
    refine wpAny_noteFrame_onW hfr b3 hfm ht (fun b o z => PySem.W.of_hideAll _ z) (PySem.W.hideAll_none _ (List.mem_cons_self ..)) fun h' ⟨k1, k2, k3, k4⟩ => ?_
    refine wpAny_setFlight_noneW (s := { s with heap := h' }) k1 k2 k3 fun h2 m1 m2 m3 m4 => k h2 [T] a0 m1 (hst ▸ m2) m3 (fun b o q d => by
        obtain ⟨sl, q'⟩ := k4 b o q d
        exact ⟨sl, m4 b _ q' d⟩) fun b hb => by
          rcases hb with rfl | hb
          · exact ⟨f1, f2, oe, vs, q1, q3⟩
          · simp at hb
            subst hb
            exact ⟨r3, r4, oT, ts, r5, r6⟩
/-- the clause's class is above the exception's -/
theorem exc_match {prog : Program} {w : World} {A : Around} {E1 : Value → Shared → Prop} {K : PySem.W.Frag} {mg mg2 : Str → Option Value} {C J : Addr} {oe : Obj} {y z : Str} {Q : Bool → Shared → Prop} (X : K.In s.heap) (hC : OwnCls y C bmV "ValueError.__new__" mg s.heap) (hJ : OwnCls z J bmV "ValueError.__new__" mg2 s.heap)
    (he : s.heap.get? e = some oe) (hc : oe.cls = .ref C) (hm : mroIn K C (.ref J) = some true) (h : Q true s) : wpAny (model prog w) A (excMatches (.ref e) (.ref J)) Q E1 s := by
  obtain ⟨tl, N, nm, q, bs, hdct, sn, sub, ab, col, dd, k0, k1, k2, k3, k5, mN, hC, hN, hni, T⟩ := hC.obj
  obtain ⟨tl', N', nm', q', bs', hdct', sn', sub', ab', col', dd', l0, l1, l2, l3, l5, mN', hJ, hN', hni', T'⟩ := hJ.obj
  obtain ⟨hh, g, d, t, os⟩ := s
  have hcB : (Value.ref J :: tl').contains (.type "BaseException") = true := by rw [List.contains_cons, T'.hasType PySem.F.excBase_ValueError.hasBase, Bool.or_true]
  have hcC : (Value.ref C :: tl).contains (.ref J) = true := by
    unfold mroIn at hm
    obtain ⟨cd, a, b⟩ := Option.bind_eq_some_iff.mp hm
    split at b
    · cases b
    · have b' := Option.some.inj b
      unfold clsIn at a
      split at a
      · rename_i look
        cases a
        have z := (X _ _ look).symm.trans hC
        cases z
        exact b'
      · cases a
  have f := tc_notTuple
  unfold excMatches
  repeat (first | (with_reducible refine wpAny_loadPart_at he ?_; rw [hc]) | with_reducible refine wpAny_loadPart_at hJ ?_ | (with_reducible refine wpAny_isSubtype_exc hJ ?_; rw [hcB]) | (with_reducible refine wpAny_isSubtype_exc hC ?_; rw [hcC]) | wp_step)
  exact h
end
end FD
namespace FD
open PySem PySem.Spec PyProof.Rows L2 PySem.W
def fTry (m i N : Nat) (f g : FnE) : FnS := fun ρ => match f ρ with
  | none => none
  | some (.ok d) => some (.rt d)
  | some (.exc c) => if c < m then (match g ((List.replicate N none).set i (some (.exn c))) with
    | some (.ok d) => some (.rt d)
    | _ => none) else none
section
variable {X : Cx} {ex hx : Expr} {f g : FnE} {J n : Str} {CJ : Addr} {np rp rp2 hpos pos : Pos}
theorem fs_try (m i N : Nat) (hex : X.ex = []) (hst : X.stack = X.env :: X.outer) (hfm : X.env.frame = some X.env.locals) (hgJ : Gl X J) (hmJ : X.mg J = some (.ref CJ)) (KJ : excIn X.K CJ bmV "ValueError.__new__" = true)
    (xk : ∀ c C, c < m → nsIn X.K mainGlobals (xnm c) = some (some (.ref C)) → excIn X.K C bmV "ValueError.__new__" = true ∧ mroIn X.K C (.ref CJ) = some true)
    (hN : X.N.Nodup) (hi : X.N[i]? = some n) (hl : X.env.scope.names.lookup n = some .local) (hNl : X.N.length = N)
    (hb : ∀ pl E', FE (tryX X pl E') ex f) (hh : ∀ pl e, FE (handX X pl e) hx g) (hdb : (J == ("__debug__" : Str)) = false := by kernel_rfl) :
    FS X (.Try [.Return (some ex) rp] [.ExceptHandler (some (.Name J np)) (some n) [.Return (some hx) rp2] hpos] [] [] pos) (fTry m i N f g) := by
  constructor
  intro pins s σ H D I ⟨ρ, E, o⟩
  refine wpAny_Try_except ?_
  have hbody := fun E' (h : OutS (tryX X pins E') H (fRet f ρ) { nx := fun _ _ => False, rt := D.rt }) => (fss_one (fs_ret (pos := rp) (hb pins E'))).h [] s σ H { nx := fun _ _ => False, rt := D.rt } (inv_try I) ⟨ρ, E, h⟩
  refine wpAny_mono (hbody (fun e s₁ => wpAny (model X.prog X.w) X.A (noteFrame e X.env) (fun _ s₂ => wpAny (model X.prog X.w) X.A (setFlight e none) (fun _ s₃ => wpAny (model X.prog X.w) X.A (handleBy e X.env [.ExceptHandler (some (.Name J np)) (some n) [.Return (some hx) rp2] hpos]) (SP X pins D) X.xe s₃) X.xe s₂) X.xe s₁) ?_) (fun fl s1 hs => ?_) fun e s1 hs => hs
  · unfold fTry at o
    unfold fRet
    match hf : f ρ with
    | none => rw [hf] at o; exact o.elim
    | some (.ok d) => rw [hf] at o; exact o
    | some (.exc c) =>
      rw [hf] at o
      dsimp only at o
      by_cases hcm : c < m
      · rw [if_pos hcm] at o
        intro ps σ1 H1 s1 ev same I1 ⟨e, C, he, hC, F⟩
        subst he
        have fe : H1 e = none := F.1
        have fn := F.2.1
        refine note_fly (Y := tryX X pins _) I1 hex hst hfm F (E1 := X.xe) (E2 := X.xe) fun h2 Ts a0 k1 k2 k3 k4 k5 => ?_
        have I1' := I1.pins_of (pins' := []) fun p hp => absurd hp (by simp)
        have hf5 : ∀ b, b = e ∨ b ∈ Ts → H1 b = none ∧ X.s₀.heap.get? b = none ∧ (∀ p ∈ (X.pn ++ pins) ++ [], p.1 ≠ b) ∧ ∃ o vs, s1.heap.get? b = some o ∧ o.data = .fields vs := fun b hb => ⟨(k5 b hb).1, (k5 b hb).2.1.1, fun p hp => (k5 b hb).2.1.2 p (by simpa using hp), (k5 b hb).2.2⟩
        have I2 := Inv.aft I1' (aft_of I1 k1 k4) hex hf5
        have J2 : Inv (handX X pins e) [] σ1 H1 { s1 with heap := h2 } := inv_hand (inv_untry I2)
        have k3' := k3
        obtain ⟨oe, vs, T, oT, ts, t1, ⟨t2, t3⟩, t4, _⟩ := k3'
        obtain ⟨xC, xm⟩ := xk c C hcm hC
        refine wpAny_handleBy_cons (codeAny_handlers_test (ld_glob (X := handX X pins e) J2 hgJ hmJ ?_ hdb)) (by intro z; cases z)
        refine exc_match (mg := fun _ => some (.ref C)) (y := n) J2.kIn (own_in J2.kIn rfl xC) (own_in J2.kIn hmJ KJ) t1 t2 xm ?_
        show codeAny _ _ (.handlers (.ref e) [.ExceptHandler none (some n) [.Return (some hx) rp2] hpos] X.env) _ _
        refine codeAny_handlers_suite_as ?_
        refine wpAny_setFlight_noneW (s := { s1 with heap := h2 }) k1 k2 k3.at fun h3 m1 m2 m3 m4 => ?_
        have A3 : Aft (tryX X pins _) e Ts s1.heap h3 := aft_of I1 m1 fun b o q d => by
          obtain ⟨sl, q'⟩ := k4 b o q d
          exact ⟨sl, m4 b _ q' d⟩
        have I3 := Inv.aft I1' A3 hex hf5
        obtain ⟨oe3, vs3, T3, oT3, ts3, u1, ⟨u2, u3⟩, u4, _⟩ := m3
        have I4 := Inv.freeze I3 fe u1 u4 fn.1 fun p hp => fn.2 p (by simpa using hp)
        have J4 : Inv (handX X pins e) [] σ1 (upd H1 e (.frz oe3 (.ext fun _ => True))) { s1 with heap := h3 } := inv_hand (inv_untry I4)
        refine store_ok (X := handX X pins e) J4 hN hi (.inl hl) (v := .ref e) rfl (fun s5 J5 => ?_) (.inr hl)
        have rep : Rep X.K (upd H1 e (.frz oe3 (.ext fun _ => True))) (.exn c) (.ref e) := ⟨e, oe3, _, C, rfl, upd_same, u2, hC⟩
        have E5 : Envs X.K (upd H1 e (.frz oe3 (.ext fun _ => True))) (σ1.set i (some (.ref e))) ((List.replicate N none).set i (some (.exn c))) := by
          refine Envs.set (ρ := List.replicate N none) ⟨?_, fun j d hj => ?_⟩ rep
          · rw [I1.len, List.length_replicate]; exact hNl
          · rw [List.getElem?_replicate] at hj
            split at hj <;> cases hj
        match hg : g ((List.replicate N none).set i (some (.exn c))) with
        | none => rw [hg] at o; exact o.elim
        | some (.exc c2) => rw [hg] at o; exact o.elim
        | some (.ok d) =>
          rw [hg] at o
          have hrun := (fss_one (fs_ret (pos := rp2) (hh pins e))).h [] s5 _ _ { nx := fun _ _ => False, rt := D.rt } J5 ⟨_, E5, (by
            unfold fRet
            rw [hg]
            exact fun v H' e1 r => o v H' ((same.trans (same_new fe _)).trans e1) r)⟩
          refine wpAny_mono hrun (fun fl s6 hs => ?_) fun _ _ z => z.elim
          cases fl with
          | ret u =>
            obtain ⟨v, σ6, H6, J6, rv, q6⟩ := hs
            have J7 : Inv X pins σ6 H6 s6 := inv_unhand I.ok J6
            have hil : i < σ6.length := by rw [J7.len]; exact (List.getElem?_eq_some_iff.mp hi).1
            refine wpAny_bind (wpAny_bindName (store_ok J7 hN hi (.inl hl) (v := .non) rfl (fun s7 J8 => ?_) (.inr hl)))
            exact unbind_ok J8 hN hi hl (v := .non) (List.getElem?_set_self hil) fun s8 J9 => ⟨v, _, H6, J9, rv, q6⟩
          | next => obtain ⟨_, _, _, z⟩ := hs; exact False.elim z
          | brk => obtain ⟨_, _, _, z⟩ := hs; exact False.elim z
          | cont => obtain ⟨_, _, _, z⟩ := hs; exact False.elim z
      · rw [if_neg hcm] at o
        exact o.elim
  · cases fl with
    | ret u =>
      obtain ⟨v, σ', H', I', rv, q⟩ := hs
      exact ⟨v, σ', H', inv_untry I', rv, q⟩
    | next => obtain ⟨_, _, _, z⟩ := hs; exact False.elim z
    | brk => obtain ⟨_, _, _, z⟩ := hs; exact False.elim z
    | cont => obtain ⟨_, _, _, z⟩ := hs; exact False.elim z
end
end FD
namespace FD
open PySem PySem.Spec PyProof.Rows L2
/-! ### list.count -/
def cntD : List Dv → List Dv → Option (Rs Dv)
  | xs, [x] => if flatD x && xs.all flatD && decide (xs.length ≤ 100000) then some (.ok (.int (xs.countP (fun y => eqF y x) : Nat))) else none
  | _, _ => none
def rCount : V → List V → Hp → VK → Prop := fun x xs H Q => ∃ a vs y, x = .ref a ∧ xs = [y] ∧ H a = some (.lst vs) ∧ flatV y = true ∧ vs.all flatV = true ∧ vs.length ≤ 100000 ∧ Q (.int (vs.countP (fun v => eqV v y) : Nat)) H
section
variable {X : Cx} {apos cpos : Pos} {e o : Expr} {es : List Expr} {ga : FnA} {fo : FnE}
theorem count_vals {y : V} : ∀ {vs : List V} {its : List Value}, Vals vs its → vs.all flatV = true → its.countP (eqU y) = vs.countP fun v => eqV v y
  | _, _, .nil, _ => rfl
  | _, _, .cons (a := v) (b := u) r t, f => by
    rw [List.all_cons, Bool.and_eq_true] at f
    rw [List.countP_cons, List.countP_cons, count_vals t f.2, eqU_of r f.1]
theorem mt_lcount : MtR X "list.count" rCount := by
  intro pins s σ H x xs v us Q I rx rs h
  obtain ⟨a, vs, y, rfl, rfl, h1, fy, fv, hz, q⟩ := h
  cases rx
  obtain ⟨u, rfl, ru⟩ := vals1 rs
  obtain ⟨z, its, n, rv, hl, e⟩ := I.lstM h1
  refine call_meets PySem.F.slot_list_count ⟨_, e, rfl⟩ PySem.F.entry_list_count (PySem.F.args_list_count_2 _ _) (SeqAt.list_countAt a its.toArray n none #[] u (eqU y)) ⟨e, fun t ht => mem_eqAt ru fy rv fv t (by simpa using ht), ⟨.int (vs.countP (fun v => eqV v y) : Nat), H, I.tok _, ⟨s.toks, ?_⟩, q⟩⟩
  have := count_vals (y := y) rv fv
  rw [List.toList_toArray, this]
theorem cnt_ok {K : PySem.W.Frag} {H : Hp} {x : Dv} {u : V} (q : Rep K H x u) (hx : flatD x = true) : ∀ {xs : List Dv} {vs : List V}, Reps K H xs vs → xs.all flatD = true → vs.countP (fun v => eqV v u) = xs.countP fun y => eqF y x
  | [], vs, r, _ => by cases (show vs = [] from r); rfl
  | y :: ys, vs, r, f => by
    obtain ⟨v, ws, rfl, r1, r2⟩ : ∃ v us, vs = v :: us ∧ Rep K H y v ∧ Reps K H ys us := r
    rw [List.all_cons, Bool.and_eq_true] at f
    rw [List.countP_cons, List.countP_cons, cnt_ok q hx r2 f.2, eqF_ok r1 q f.1 hx]
theorem fe_count (ho : FE X o fo) (ha : FA X (e :: es) ga)
    (hbase : attributeBase o "count" X.env (eval o X.env) = eval o X.env := by kernel_rfl)
    (hfew : ((backTo cpos (starEach (e :: es) X.env)).all (fun x => !x.1) && (backToKw cpos (keywordEach [] X.env)).all (fun x => x.1.isSome)
      && decide ((e :: es).length + ([] : List Keyword).length + (if ([] : List Keyword).isEmpty then 0 else 1) < 30)) = true := by kernel_rfl)
    (hline : (apos.endLine == cpos.line) = true := by kernel_rfl) (hs : starEach (e :: es) X.env = (false, eval e X.env) :: starEach es X.env := by kernel_rfl) (hplain : (backTo cpos (starEach es X.env)).any (·.1) = false := by kernel_rfl) :
    FE X (.Call (.Attribute o "count" apos) (e :: es) [] cpos) (fML cntD fo ga) :=
  fe_of (pe_bm PySem.F.plainAttrs_list PySem.F.slot_list_count PySem.F.type_list_count mt_lcount ho.h ha.h hbase hfew hline hs hplain) fun σ H Q ρ E o => ⟨ρ, E, Out.bind o fun d v H1 e1 rd o1 => by
    cases d <;> try exact (show False from o1).elim
    rename_i ds
    obtain ⟨a, vs, rfl, h1, h2⟩ := rd.lstE
    refine ⟨.inl ⟨rfl, vs, SqL.of h1⟩, ρ, E.mono e1, OutA.bind o1 fun es ws H2 e2 rs o2 => ?_⟩
    unfold cntD at o2
    split at o2
    · rename_i x
      split at o2
      · rename_i hc
        rw [Bool.and_eq_true, Bool.and_eq_true] at hc
        obtain ⟨w, rfl, rw'⟩ := reps1 rs
        have h2' := Reps.mono e2 _ _ h2
        refine ⟨a, vs, w, rfl, rfl, e2 _ _ h1, flat_ok rw' hc.1.1, flats_ok h2' hc.1.2, by rw [h2.length]; exact of_decide_eq_true hc.2, ?_⟩
        rw [cnt_ok rw' hc.1.1 h2' hc.1.2]
        exact o2 _ H2 (.refl H2) rfl
      · exact o2.elim
    · exact o2.elim⟩
end
/-! ### a op b op c -/
section
variable {X : Cx} {a b c : Expr} {fa fb fc : FnE} {pos : Pos}
theorem chain2 {r r' : R2} {g g' : Dv → Dv → Option (Rs Dv)} (hg : GOp X r g) (hg' : GOp X r' g') {σ : L2.St} {H : Hp} {Q : VK} {ρ : Ev} (E : Envs X.K H σ ρ) (o : Out X H (fChain g g' fa fb fc ρ) Q) : tChain r r' (tF X fa) (tF X fb) (tF X fc) σ H Q :=
  ⟨ρ, E, Out.bind o fun dx x H1 e1 rx o1 => ⟨ρ, E.mono e1, Out.bind o1 fun dy y H2 e2 ry o2 => hg dx dy x y H2 _ (Rep.mono e2 dx x rx) ry (Out.bind o2 fun dz z H3 e3 rz o3 => by
    obtain ⟨k, rfl, o4⟩ := out_toB rz o3
    refine ⟨k, rfl, ?_⟩
    cases k with
    | false => exact iteF (o4 (.bl false) H3 (.refl H3) rfl)
    | true => exact iteT ⟨ρ, (E.mono e1).mono (e2.trans e3), Out.bind o4 fun dw w H4 e4 rw' o5 => hg' dy dw y w H4 Q (Rep.mono (e3.trans e4) dy y ry) rw' o5⟩)⟩⟩
theorem fe_chain {op op' : CmpOp} {r r' : R2} {g g' : Dv → Dv → Option (Rs Dv)} (ho : OpR X (compareOp op) r) (hg : GOp X r g) (ho' : OpR X (compareOp op') r') (hg' : GOp X r' g') (ha : FE X a fa) (hb : FE X b fb) (hc : FE X c fc)
    (hm : lastMarks [op, op'] [b, c] = false := by kernel_rfl) : FE X (.Compare a [op, op'] [b, c] pos) (fChain g g' fa fb fc) :=
  fe_of (pe_chain ho ho' ha.h hb.h hc.h hm) fun _ _ _ _ E o => chain2 hg hg' E o
theorem ft_chain {op op' : CmpOp} {r r' : R2} {g g' : Dv → Dv → Option (Rs Dv)} (ho : OpR X (compareOp op) r) (hg : GOp X r g) (ho' : OpR X (compareOp op') r') (hg' : GOp X r' g') (ha : FE X a fa) (hb : FE X b fb) (hc : FE X c fc)
    (hm : lastMarks [op, op'] [b, c] = false := by kernel_rfl) : FT X (.Compare a [op, op'] [b, c] pos) (fB (fChain g g' fa fb fc)) :=
  ft_of (pt_chain ho ho' ha.h hb.h hc.h hm) fun σ H Q ρ E o => by
    show tChain r r' (tF X fa) (tF X fb) (tF X fc) σ H _
    exact chain2 hg hg' E (Out.bindB o fun d v H' e r o' => outB_toB r o')
end
/-! ### text * int -/
def strMul (x : Str) (n : Int) : Str := if n < 1 then Str.empty else if (n == 1 || x.length == 0) = true then x else ⟨(List.replicate n.toNat x.cps).foldl (· ++ ·) #[]⟩
def mulX : Dv → Dv → Option (Rs Dv)
  | .str x, .int n => if x.length ≤ 1000 ∧ -1000 ≤ n ∧ n ≤ 1000 then some (.ok (.str (strMul x n))) else none
  | x, y => mulD x y
section
variable {X : Cx}
def rMulS : R2 := fun x y H Q => ∃ i n, x = .str i ∧ y = .int n ∧ (i.length ≤ 1000 ∧ -1000 ≤ n ∧ n ≤ 1000) ∧ Q (.str (strMul i n)) H
theorem rep_size (a : Array Nat) : ∀ (k : Nat) (acc : Array Nat), ((List.replicate k a).foldl (· ++ ·) acc).size = acc.size + k * a.size
  | 0, acc => by simp
  | k + 1, acc => by
    rw [List.replicate_succ, List.foldl_cons, rep_size a k (acc ++ a), Array.size_append, Nat.succ_mul]
    omega
theorem million {a n : Nat} (h1 : a ≤ 1000) (h2 : n ≤ 1000) : n * a ≤ sizeLine := by
  have h3 : n * a ≤ 1000 * 1000 := Nat.mul_le_mul h2 h1
  rw [sizeLine_eq]
  exact Nat.le_trans h3 (by decide)
theorem op_mulS : OpR X (binaryOp .Mult) rMulS := by
  intro pins s σ H x y v u Q I rx ry ⟨i, n, hx, hy, hc, q⟩
  subst hx hy
  obtain ⟨t, rfl⟩ := rx
  obtain ⟨t2, rfl⟩ := ry
  have h0 : (decide (n < -(2 ^ 63 : Int)) || decide (n ≥ 2 ^ 63)) = false := by
    have h1 : ¬ n < -(2 ^ 63 : Int) := by omega
    have h2 : ¬ n ≥ 2 ^ 63 := by omega
    rw [decide_eq_false h1, decide_eq_false h2]; rfl
  refine P.mul_str h0 (fun h1 h2 h3 => ?_) (fun h1 h2 => ?_) ?_
  · have hn : 0 < n := by omega
    have e1 := Int.mul_ediv_add_emod (2 ^ 63 - 1) n
    have e2 := Int.emod_lt_of_pos (2 ^ 63 - 1) hn
    have hq : (2 ^ 63 - 1 : Int) / n < 1000 := by omega
    have hq0 : 0 ≤ (2 ^ 63 - 1 : Int) / n := Int.ediv_nonneg (by decide) (by omega)
    have h4 : n * ((2 ^ 63 - 1 : Int) / n) ≤ 1000 * ((2 ^ 63 - 1 : Int) / n) := Int.mul_le_mul_of_nonneg_right hc.2.2 hq0
    omega
  · show decide (i.length * n.toNat > sizeLine) = false
    have := million (a := i.length) (n := n.toNat) hc.1 (by omega)
    rw [Nat.mul_comm]
    exact decide_eq_false (by omega)
  · unfold strMul at q
    split
    · rename_i h1
      rw [if_pos h1] at q
      exact ⟨by decide, ⟨.str Str.empty, H, I.tok _, ⟨_, rfl⟩, q⟩⟩
    · rename_i h1
      rw [if_neg h1] at q
      split
      · rename_i h2
        rw [if_pos h2] at q
        exact ⟨.str i, H, I, ⟨_, rfl⟩, q⟩
      · rename_i h2
        rw [if_neg h2] at q
        refine ⟨?_, ⟨.str _, H, I.tok _, ⟨_, rfl⟩, q⟩⟩
        show ((List.replicate n.toNat i.cps).foldl (· ++ ·) #[]).size ≤ sizeLine
        rw [rep_size]
        have := million (a := i.length) (n := n.toNat) hc.1 (by omega)
        have e : i.cps.size = i.length := rfl
        rw [e]
        simpa using this
theorem o_mulX : OpR X (binaryOp .Mult) (fun x y H Q => rMulS x y H Q ∨ rI CMul (fun i j => .int (i * j)) x y H Q) := op_mulS.or op_mul
theorem g_mulX : GOp X (fun x y H Q => rMulS x y H Q ∨ rI CMul (fun i j => .int (i * j)) x y H Q) mulX := by
  intro dx dy x y H Q rx ry o
  cases dx with
  | str i =>
    cases dy with
    | int n =>
      have o2 : Out X H (if i.length ≤ 1000 ∧ -1000 ≤ n ∧ n ≤ 1000 then some (.ok (.str (strMul i n))) else none) Q := o
      by_cases hc : i.length ≤ 1000 ∧ -1000 ≤ n ∧ n ≤ 1000
      · rw [if_pos hc] at o2
        exact .inl ⟨i, n, rx, ry, hc, o2 _ H (.refl H) rfl⟩
      · rw [if_neg hc] at o2
        exact o2.elim
    | _ => exact (show False from o).elim
  | _ => exact .inr (g_mul _ _ x y H Q rx ry o)
end
end FD
namespace FD
open PySem PySem.Spec PyProof.Rows L2 PySem.W
/-! ### the refusals' classes, as the fragment has them -/
def xiB (K : PySem.W.Frag) (C : Addr) : Bool := findIn K (.ref C) "__getattribute__" == some (some (.builtin "BaseException.__getattribute__")) && findIn K (.ref C) "__getattr__" == some none && findIn K (.ref C) "__class__" == some (some (.builtin "object.__class__")) &&
  specialIn K (.builtin "object.__class__") "__get__" == some (some (.builtin "getset_descriptor.__get__")) && takesIn K (.builtin "object.__class__") == some true && mroIn K C (.type "object") == some true && mroIn K C (.type "BaseException") == some true
theorem xi_of {K : PySem.W.Frag} {C : Addr} (h : xiB K C = true) : XI K C := by
  unfold xiB at h
  simp only [Bool.and_eq_true, beq_iff_eq] at h
  exact ⟨h.1.1.1.1.1.1, h.1.1.1.1.1.2, h.1.1.1.1.2, h.1.1.1.2, h.1.1.2, h.1.2, h.2⟩
def clsB (K : PySem.W.Frag) (Cs : List Addr) (CJ : Addr) : Bool := excIn K CJ bmV "ValueError.__new__" && (List.range Cs.length).all fun c => excIn K (Cs.getD c 0) bmV "ValueError.__new__" && xiB K (Cs.getD c 0) && mroIn K (Cs.getD c 0) (.ref CJ) == some true &&
  kitOne K (.ref (Cs.getD c 0)) (.type "ValueError") == some true && (List.range Cs.length).all fun d => kitOne K (.ref (Cs.getD c 0)) (.ref (Cs.getD d 0)) == some (c == d)
structure XAll (K : PySem.W.Frag) (m : Nat) (cls : Nat → Addr) (CJ : Addr) : Prop where
  at_ : ∀ c, c < m → nsIn K mainGlobals (xnm c) = some (some (.ref (cls c))) ∧ excIn K (cls c) bmV "ValueError.__new__" = true ∧ XI K (cls c) ∧ mroIn K (cls c) (.ref CJ) = some true ∧ kitOne K (.ref (cls c)) (.type "ValueError") = some true ∧ ∀ d, d < m → kitOne K (.ref (cls c)) (.ref (cls d)) = some (c == d)
  exJ : excIn K CJ bmV "ValueError.__new__" = true
theorem xall_of {K : PySem.W.Frag} {m : Nat} {Cs : List Addr} {CJ : Addr} (hm : m = Cs.length) (hn : ∀ c, c < m → nsIn K mainGlobals (xnm c) = some (some (.ref (Cs.getD c 0)))) (h : clsB K Cs CJ = true) : XAll K m (fun c => Cs.getD c 0) CJ := by
  subst hm
  unfold clsB at h
  rw [Bool.and_eq_true] at h
  refine ⟨fun c hc => ?_, h.1⟩
  have h1 := List.all_eq_true.mp h.2 c (List.mem_range.mpr hc)
  simp only [Bool.and_eq_true, beq_iff_eq] at h1
  exact ⟨hn c hc, h1.1.1.1.1, xi_of h1.1.1.1.2, h1.1.1.2, h1.1.2, fun d hd => by
    have h2 := List.all_eq_true.mp h1.2 d (List.mem_range.mpr hd)
    simpa using h2⟩
section
variable {K : PySem.W.Frag} {m : Nat} {cls : Nat → Addr} {CJ : Addr} (x : XAll K m cls CJ)
include x
theorem XAll.xc (c : Nat) (h : c < m) : XC K c (cls c) := ⟨(x.at_ c h).1, (x.at_ c h).2.1⟩
theorem XAll.same {c : Nat} {C : Addr} (h : c < m) (q : nsIn K mainGlobals (xnm c) = some (some (.ref C))) : C = cls c := by
  have z := (x.at_ c h).1
  rw [q] at z
  cases z
  rfl
theorem XAll.xk : ∀ c C, c < m → nsIn K mainGlobals (xnm c) = some (some (.ref C)) → excIn K C bmV "ValueError.__new__" = true ∧ mroIn K C (.ref CJ) = some true := fun c C h q => by
  rw [x.same h q]
  exact ⟨(x.at_ c h).2.1, (x.at_ c h).2.2.2.1⟩
theorem XAll.xtO (d : Nat) (hd : d < m) : XT K (fun c => if c < m then some (c == d) else none) (.ref (cls d)) := fun c b hb C q => by
  dsimp only at hb
  split at hb
  · rename_i h
    cases hb
    rw [x.same h q]
    exact ⟨(x.at_ c h).2.2.1, (x.at_ c h).2.2.2.2.2 d hd⟩
  · cases hb
theorem XAll.xtV : XT K (fun c => if c < m then some true else none) (.type "ValueError") := fun c b hb C q => by
  dsimp only at hb
  split at hb
  · rename_i h
    cases hb
    rw [x.same h q]
    exact ⟨(x.at_ c h).2.2.1, (x.at_ c h).2.2.2.2.1⟩
  · cases hb
end
end FD
namespace FD
open PySem
theorem bt_ValueError : bootBuiltins (Str.ofString "ValueError") = some (.type "ValueError") := by kernel_rfl
end FD
namespace FD
open PySem PySem.Spec PyProof.Rows L2
/-! ### text.strip(signs) -/
def stripD : Str → List Dv → Option (Rs Dv)
  | x, [.str y] => if x.length ≤ 100000 then some (.ok (.str (Txt.stripChars x y))) else none
  | _, _ => none
def rStrip : V → List V → Hp → VK → Prop := fun x xs H Q => ∃ i j, x = .str i ∧ xs = [.str j] ∧ i.length ≤ sizeLine ∧ Q (.str (Txt.stripChars i j)) H
section
variable {X : Cx}
theorem mt_strip : MtR X "str.strip" rStrip := by
  intro pins s σ H x xs v us Q I rx rs h
  obtain ⟨i, j, rfl, rfl, hl, q⟩ := h
  obtain ⟨t, rfl⟩ := rx
  obtain ⟨u, rfl, ru⟩ := vals1 rs
  obtain ⟨t', rfl⟩ := ru
  exact SC.stripChars (fun t2 k => ⟨.str _, H, I.tok k, ⟨_, rfl⟩, q⟩) hl
theorem g_strip (i : Str) (ds : List Dv) (vs : List V) (H : Hp) (Q : VK) (rs : Reps X.K H ds vs) (o : Out X H (stripD i ds) Q) : rStrip (.str i) vs H Q := by
  unfold stripD at o
  split at o
  · rename_i j
    split at o
    · rename_i hl
      obtain ⟨w, rfl, rw'⟩ := reps1 rs
      cases (show w = .str j from rw')
      exact ⟨i, j, rfl, rfl, le_line hl, o _ H (.refl H) rfl⟩
    · exact o.elim
  · exact o.elim
end
end FD
namespace FD
open PySem PySem.Spec PyProof.Rows L2
/-! ### facts about the functions themselves -/
theorem loopF_const {i : Nat} {js : List Nat} {body : FnS} {ρ : Ev} : ∀ {ds : List Dv}, (∀ d ∈ ds, ∃ ρ', body (ρ.set i (some d)) = some (.nx ρ') ∧ fgt js ρ' = ρ) → ∀ ρ0, fgt js ρ0 = ρ → loopF i js body ds ρ0 = some (.nx ρ)
  | [], _, ρ0, e => by unfold loopF; rw [e]
  | d :: ds, h, ρ0, e => by
    obtain ⟨ρ', h1, h2⟩ := h d List.mem_cons_self
    unfold loopF
    rw [e, h1]
    exact loopF_const (fun d' hd => h d' (List.mem_cons_of_mem _ hd)) ρ' h2
theorem sq_nx {o : Option Fl} {k : Ev → Option Fl} {ρ : Ev} (h : o = some (.nx ρ)) : sq o k = k ρ := by rw [h]; rfl
/-- the test is no -/
def isF (o : Option (Rs Bool)) : Bool := match o with
  | some (.ok false) => true
  | _ => false
theorem isF_eq {o : Option (Rs Bool)} (h : isF o = true) : o = some (.ok false) := by
  match o, h with
  | some (.ok false), _ => rfl
def isT (o : Option (Rs Bool)) : Bool := match o with
  | some (.ok true) => true
  | _ => false
theorem isT_eq {o : Option (Rs Bool)} (h : isT o = true) : o = some (.ok true) := by
  match o, h with
  | some (.ok true), _ => rfl
theorem ifS_F {c : FnB} {f g : FnS} {ρ : Ev} (h : c ρ = some (.ok false)) : fIfS c f g ρ = g ρ := by
  unfold fIfS; rw [h]; rfl
theorem ifS_T {c : FnB} {f g : FnS} {ρ : Ev} (h : c ρ = some (.ok true)) : fIfS c f g ρ = f ρ := by
  unfold fIfS; rw [h]; rfl
theorem all_mem {α : Type} {p : α → Bool} {l : List α} (h : l.all p = true) {x : α} (hx : x ∈ l) : p x = true := List.all_eq_true.mp h x hx

theorem mapF_cons {elt : FnE} {cap : Ev} {d y : Dv} {ds ys : List Dv} (h : elt (cap.set 0 (some d)) = some (.ok y)) (t : mapF none elt cap ds = some ys) : mapF none elt cap (d :: ds) = some (y :: ys) := by
  unfold mapF
  dsimp only
  rw [h, t]
/-! ### the draws -/
def cellN (ns : List Int) (k : Int) : Int := match ns with
  | [] => 7 * k
  | _ => (ns[(k % (ns.length : Int)).toNat]?).getD 0 + 6553 * (k / (ns.length : Int))
end FD
namespace G
open PySem PySem.Spec PyProof.Rows L2 FD

def top (i : Nat) : Stmt := PySem.Challenge.pw_notejar_k01_names.main.body.getD i (.Pass ⟨0, 0, 0, 0⟩)
abbrev s__law_is_label : Stmt := top 31
theorem sc__law_is_label : FnScope ["_law_thing"] ["_law_thing"] (defScope s__law_is_label) := ⟨rfl, rfl, rfl, by decide +kernel, rfl, by decide +kernel, by decide +kernel⟩
theorem bd__law_is_label {K : PySem.W.Frag} {f : Addr} {fd : FuncData} (Fn : Fun K "_law_is_label" "_law_is_label" s__law_is_label f fd) : Binds K fd ["_law_thing"] [] := Fn.binds fun _ _ _ _ _ _ us hl => match us, hl with | [_], _ => rfl
abbrev s__law_is_name : Stmt := top 32
theorem sc__law_is_name : FnScope ["_law_thing", "_law_parts"] ["_law_thing"] (defScope s__law_is_name) := ⟨rfl, rfl, rfl, by decide +kernel, rfl, by decide +kernel, by decide +kernel⟩
theorem bd__law_is_name {K : PySem.W.Frag} {f : Addr} {fd : FuncData} (Fn : Fun K "_law_is_name" "_law_is_name" s__law_is_name f fd) : Binds K fd ["_law_thing"] [] := Fn.binds fun _ _ _ _ _ _ us hl => match us, hl with | [_], _ => rfl
abbrev s__law_cell : Stmt := top 23
theorem sc__law_cell : FnScope ["_law_script", "_law_k"] ["_law_script", "_law_k"] (defScope s__law_cell) := ⟨rfl, rfl, rfl, by decide +kernel, rfl, by decide +kernel, by decide +kernel⟩
theorem bd__law_cell {K : PySem.W.Frag} {f : Addr} {fd : FuncData} (Fn : Fun K "_law_cell" "_law_cell" s__law_cell f fd) : Binds K fd ["_law_script", "_law_k"] [] := Fn.binds fun _ _ _ _ _ _ us hl => match us, hl with | [_, _], _ => rfl
abbrev s__law_drawn : Stmt := top 24
theorem sc__law_drawn : FnScope ["_law_script", "_law_k", "_law_many", "_law_cell_here"] ["_law_script", "_law_k", "_law_many"] (defScope s__law_drawn) := ⟨rfl, rfl, rfl, by decide +kernel, rfl, by decide +kernel, by decide +kernel⟩
theorem bd__law_drawn {K : PySem.W.Frag} {f : Addr} {fd : FuncData} (Fn : Fun K "_law_drawn" "_law_drawn" s__law_drawn f fd) : Binds K fd ["_law_script", "_law_k", "_law_many"] [] := Fn.binds fun _ _ _ _ _ _ us hl => match us, hl with | [_, _, _], _ => rfl
abbrev s__law_name : Stmt := top 25
theorem sc__law_name : FnScope ["_law_script", "_law_at", "_law_some"] ["_law_script", "_law_at"] (defScope s__law_name) := ⟨rfl, rfl, rfl, by decide +kernel, rfl, by decide +kernel, by decide +kernel⟩
theorem bd__law_name {K : PySem.W.Frag} {f : Addr} {fd : FuncData} (Fn : Fun K "_law_name" "_law_name" s__law_name f fd) : Binds K fd ["_law_script", "_law_at"] [] := Fn.binds fun _ _ _ _ _ _ us hl => match us, hl with | [_, _], _ => rfl
abbrev s__law_spoilt : Stmt := top 33
theorem sc__law_spoilt : FnScope ["_law_script", "_law_at", "_law_text", "_law_place", "_law_sign", "_law_some"] ["_law_script", "_law_at", "_law_text"] (defScope s__law_spoilt) := ⟨rfl, rfl, rfl, by decide +kernel, rfl, by decide +kernel, by decide +kernel⟩
theorem bd__law_spoilt {K : PySem.W.Frag} {f : Addr} {fd : FuncData} (Fn : Fun K "_law_spoilt" "_law_spoilt" s__law_spoilt f fd) : Binds K fd ["_law_script", "_law_at", "_law_text"] [] := Fn.binds fun _ _ _ _ _ _ us hl => match us, hl with | [_, _, _], _ => rfl
abbrev s__law_refused : Stmt := top 29
theorem sc__law_refused : FnScope ["_law_e", "_law_flags"] ["_law_e"] (defScope s__law_refused) := ⟨rfl, rfl, rfl, by decide +kernel, rfl, by decide +kernel, by decide +kernel⟩
theorem bd__law_refused {K : PySem.W.Frag} {f : Addr} {fd : FuncData} (Fn : Fun K "_law_refused" "_law_refused" s__law_refused f fd) : Binds K fd ["_law_e"] [] := Fn.binds fun _ _ _ _ _ _ us hl => match us, hl with | [_], _ => rfl
abbrev s_is_text_of : Stmt := top 10
theorem sc_is_text_of : FnScope ["thing", "signs", "least", "most"] ["thing", "signs", "least", "most"] (defScope s_is_text_of) := ⟨rfl, rfl, rfl, by decide +kernel, rfl, by decide +kernel, by decide +kernel⟩
theorem bd_is_text_of {K : PySem.W.Frag} {f : Addr} {fd : FuncData} (Fn : Fun K "is_text_of" "is_text_of" s_is_text_of f fd) : Binds K fd ["thing", "signs", "least", "most"] [] := Fn.binds fun _ _ _ _ _ _ us hl => match us, hl with | [_, _, _, _], _ => rfl
abbrev s_is_label : Stmt := top 16
theorem sc_is_label : FnScope ["thing"] ["thing"] (defScope s_is_label) := ⟨rfl, rfl, rfl, by decide +kernel, rfl, by decide +kernel, by decide +kernel⟩
theorem bd_is_label {K : PySem.W.Frag} {f : Addr} {fd : FuncData} (Fn : Fun K "is_label" "is_label" s_is_label f fd) : Binds K fd ["thing"] [] := Fn.binds fun _ _ _ _ _ _ us hl => match us, hl with | [_], _ => rfl
abbrev s_is_name : Stmt := top 17
theorem sc_is_name : FnScope ["thing", "parts"] ["thing"] (defScope s_is_name) := ⟨rfl, rfl, rfl, by decide +kernel, rfl, by decide +kernel, by decide +kernel⟩
theorem bd_is_name {K : PySem.W.Frag} {f : Addr} {fd : FuncData} (Fn : Fun K "is_name" "is_name" s_is_name f fd) : Binds K fd ["thing"] [] := Fn.binds fun _ _ _ _ _ _ us hl => match us, hl with | [_], _ => rfl
abbrev s_need_name : Stmt := top 18
theorem sc_need_name : FnScope ["thing"] ["thing"] (defScope s_need_name) := ⟨rfl, rfl, rfl, by decide +kernel, rfl, by decide +kernel, by decide +kernel⟩
theorem bd_need_name {K : PySem.W.Frag} {f : Addr} {fd : FuncData} (Fn : Fun K "need_name" "need_name" s_need_name f fd) : Binds K fd ["thing"] [] := Fn.binds fun _ _ _ _ _ _ us hl => match us, hl with | [_], _ => rfl
abbrev s_labels : Stmt := top 19
theorem sc_labels : FnScope ["name"] ["name"] (defScope s_labels) := ⟨rfl, rfl, rfl, by decide +kernel, rfl, by decide +kernel, by decide +kernel⟩
theorem bd_labels {K : PySem.W.Frag} {f : Addr} {fd : FuncData} (Fn : Fun K "labels" "labels" s_labels f fd) : Binds K fd ["name"] [] := Fn.binds fun _ _ _ _ _ _ us hl => match us, hl with | [_], _ => rfl
abbrev s_lies_within : Stmt := top 21
theorem sc_lies_within : FnScope ["one", "other"] ["one", "other"] (defScope s_lies_within) := ⟨rfl, rfl, rfl, by decide +kernel, rfl, by decide +kernel, by decide +kernel⟩
theorem bd_lies_within {K : PySem.W.Frag} {f : Addr} {fd : FuncData} (Fn : Fun K "lies_within" "lies_within" s_lies_within f fd) : Binds K fd ["one", "other"] [] := Fn.binds fun _ _ _ _ _ _ us hl => match us, hl with | [_, _], _ => rfl
abbrev s_within : Stmt := top 20
theorem sc_within : FnScope ["one", "other"] ["one", "other"] (defScope s_within) := ⟨rfl, rfl, rfl, by decide +kernel, rfl, by decide +kernel, by decide +kernel⟩
theorem bd_within {K : PySem.W.Frag} {f : Addr} {fd : FuncData} (Fn : Fun K "within" "within" s_within f fd) : Binds K fd ["one", "other"] [] := Fn.binds fun _ _ _ _ _ _ us hl => match us, hl with | [_, _], _ => rfl
abbrev s__law_told : Stmt := top 30
theorem sc__law_told : FnScope ["_law_way", "_law_one", "_law_other", "_law_e"] ["_law_way", "_law_one", "_law_other"] (defScope s__law_told) := ⟨rfl, rfl, rfl, by decide +kernel, rfl, by decide +kernel, by decide +kernel⟩
theorem bd__law_told {K : PySem.W.Frag} {f : Addr} {fd : FuncData} (Fn : Fun K "_law_told" "_law_told" s__law_told f fd) : Binds K fd ["_law_way", "_law_one", "_law_other"] [] := Fn.binds fun _ _ _ _ _ _ us hl => match us, hl with | [_, _, _], _ => rfl
abbrev s_law : Stmt := top 34
theorem sc_law : FnScope ["_law_script", "_law_name_here", "_law_other", "_law_things", "_law_thing", "_law_told_here", "_law_due"] ["_law_script"] (defScope s_law) := ⟨rfl, rfl, rfl, by decide +kernel, rfl, by decide +kernel, by decide +kernel⟩
theorem bd_law {K : PySem.W.Frag} {f : Addr} {fd : FuncData} (Fn : Fun K "law" "law" s_law f fd) : Binds K fd ["_law_script"] [] := Fn.binds fun _ _ _ _ _ _ us hl => match us, hl with | [_], _ => rfl
/-! _law_is_label(_law_thing) N -/
def B__law_is_label : FnS := (fSeq (fIfS (bOr (bNot (fB (f1 (isiD tbStr) (fVar 0)))) (bOr (bNot (fB (fChain leD leD (fC (.int 1)) (fB1 lenD (aCons (fVar 0) aNil)) (fC (.int 8))))) (fB (f2 neX (fVar 0) (fM (stripD) (fVar 0) (aCons (fC (.str "-")) aNil)))))) (fRet (fC (.bl false))) (fun ρ => some (.nx ρ))) (fRet (f2 eqX (fComp [] (iSeq (fVar 0)) (some (fB (f2 notInD (fVar 0) (fC (.str "abcdefghijklmnopqrstuvwxyz0123456789-"))))) (fVar 0)) (fLst aNil))))
def F__law_is_label : List Dv → Option (Rs Dv) := runF 1 B__law_is_label
set_option maxHeartbeats 4000000 in
theorem fn__law_is_label {P : Program} {w : World} {K : PySem.W.Frag} {mg : Str → Option Value} {base : Heap} {f : Addr} {fd : FuncData} (Fn : Fun K "_law_is_label" "_law_is_label" s__law_is_label f fd) (m_isinstance : mg "isinstance" = none) (m_len : mg "len" = none) (m_str : mg "str" = none) :
    FnOk P w K mg base CX0 1 f fd ["_law_thing"] (spF K F__law_is_label 1) :=
  fn_ok2 (k := 0) ["_law_thing"] ["_law_thing"] B__law_is_label (by kernel_rfl) (by kernel_rfl) Fn sc__law_is_label fun cdv A outer s H E hr => (fss_cons (fs_if (FW.ft (fw_or (ft_not (ft_val (fe_isi (T := "str") kit_str bt_str (by decide +kernel) (by kernel_rfl) (glb (by kernel_rfl)) m_isinstance (glb (by kernel_rfl)) m_str (fe_lv 0)))) (fw_or (ft_not (ft_chain op_le (g_cmp _) op_le (g_cmp _) fe_int (fe_len (glb (by kernel_rfl)) m_len (fa_cons (fe_lv 0) fa_nil)) fe_int)) (fw_or1 (ft_cmp (o_neX hr.units) g_neX (fe_lv 0) (fe_strM PySem.F.slot_str_strip PySem.F.type_str_strip mt_strip g_strip (fe_lv 0) (fa_cons fe_str fa_nil)) (nomark _)))))) (fss_one (fs_ret fe_bl)) fss_nil) (fss_one (fs_ret (fe_cmp (o_eqX hr.units) g_eqX (fe_comp (defScope s__law_is_label) ["_law_thing"] [] (by kernel_rfl) (by kernel_rfl) ⟨by kernel_rfl, by kernel_rfl, by decide +kernel, by decide +kernel, by kernel_rfl, by decide +kernel, by decide +kernel, by decide +kernel⟩ (by kernel_rfl) rfl (fi_seq (fe_lv 0)) (fun _ _ _ _ => (fe_lv 0)) (fun _ _ _ _ => ⟨_, rfl, (ft_cmp o_notIn g_notIn (fe_lv 0) fe_str (by kernel_rfl))⟩)) (fe_lst fa_nil) (nomark _)))))
/-! _law_is_name(_law_thing) N -/
def B__law_is_name : FnS := (fSeq (fIfS (bNot (fB (f1 (isiD tbStr) (fVar 0)))) (fRet (fC (.bl false))) (fun ρ => some (.nx ρ))) (fSeq (fSet 1 (fM (splitD) (fVar 0) (aCons (fC (.str ".")) aNil))) (fSeq (fIfS (bOr (fB (f2 gtD (fB1 lenD (aCons (fVar 1) aNil)) (fC (.int 5)))) (fB (f2 neX (fComp [] (iSeq (fVar 1)) (some (bNot (fB (fCall F__law_is_label 1 (aCons (fVar 0) aNil))))) (fVar 0)) (fLst aNil)))) (fRet (fC (.bl false))) (fun ρ => some (.nx ρ))) (fRet (f2 neX (fComp [] (iSeq (f2 ixD (fVar 1) (f1 negD (fC (.int 1))))) (some (fB (f2 notInD (fVar 0) (fC (.str "0123456789"))))) (fVar 0)) (fLst aNil))))))
def F__law_is_name : List Dv → Option (Rs Dv) := runF 2 B__law_is_name
set_option maxHeartbeats 4000000 in
theorem fn__law_is_name {P : Program} {w : World} {K : PySem.W.Frag} {mg : Str → Option Value} {base : Heap} {f : Addr} {fd : FuncData} (Fn : Fun K "_law_is_name" "_law_is_name" s__law_is_name f fd) (h__law_is_label : Has P w K mg base "_law_is_label" 1 ["_law_thing"] F__law_is_label) (m_isinstance : mg "isinstance" = none) (m_len : mg "len" = none) (m_str : mg "str" = none) :
    FnOk P w K mg base CX0 2 f fd ["_law_thing"] (spF K F__law_is_name 1) :=
  fn_ok2 (k := 1) ["_law_thing", "_law_parts"] ["_law_thing"] B__law_is_name (by kernel_rfl) (by kernel_rfl) Fn sc__law_is_name fun cdv A outer s H E hr => (fss_cons (fs_if (ft_not (ft_val (fe_isi (T := "str") kit_str bt_str (by decide +kernel) (by kernel_rfl) (glb (by kernel_rfl)) m_isinstance (glb (by kernel_rfl)) m_str (fe_lv 0)))) (fss_one (fs_ret fe_bl)) fss_nil) (fss_cons (fs_set 1 sc__law_is_name.nd (by kernel_rfl) (.inl (by kernel_rfl)) (fe_strM PySem.F.slot_str_split PySem.F.type_str_split mt_split g_split (fe_lv 0) (fa_cons fe_str fa_nil))) (fss_cons (fs_if (FW.ft (fw_or (ft_cmp op_gt (g_cmp _) (fe_len (glb (by kernel_rfl)) m_len (fa_cons (fe_lv 1) fa_nil)) fe_int (nomark _)) (fw_or1 (ft_cmp (o_neX hr.units) g_neX (fe_comp (defScope s__law_is_name) ["_law_thing", "_law_parts"] [] (by kernel_rfl) (by kernel_rfl) ⟨by kernel_rfl, by kernel_rfl, by decide +kernel, by decide +kernel, by kernel_rfl, by decide +kernel, by decide +kernel, by decide +kernel⟩ (by kernel_rfl) rfl (fi_seq (fe_lv 1)) (fun _ _ _ _ => (fe_lv 0)) (fun _ _ _ _ => ⟨_, rfl, (ft_not (ft_val (fe_callH (k' := 1) 1 ["_law_thing"] F__law_is_label h__law_is_label hr (by decide) (glb (by kernel_rfl)) (fa_cons (fe_lv 0) fa_nil))))⟩)) (fe_lst fa_nil) (nomark _))))) (fss_one (fs_ret fe_bl)) fss_nil) (fss_one (fs_ret (fe_cmp (o_neX hr.units) g_neX (fe_comp (defScope s__law_is_name) ["_law_thing", "_law_parts"] [] (by kernel_rfl) (by kernel_rfl) ⟨by kernel_rfl, by kernel_rfl, by decide +kernel, by decide +kernel, by kernel_rfl, by decide +kernel, by decide +kernel, by decide +kernel⟩ (by kernel_rfl) rfl (fi_seq (fe_ix (fe_lv 1) (fe_neg fe_int))) (fun _ _ _ _ => (fe_lv 0)) (fun _ _ _ _ => ⟨_, rfl, (ft_cmp o_notIn g_notIn (fe_lv 0) fe_str (by kernel_rfl))⟩)) (fe_lst fa_nil) (nomark _)))))))
/-! _law_cell(_law_script, _law_k) N -/
def B__law_cell : FnS := (fSeq (fIfS (fB (f2 scrD (fVar 0) (fLst aNil))) (fRet (f2 mulD (fC (.int 7)) (fVar 1))) (fun ρ => some (.nx ρ))) (fRet (f2 addD (f2 ixD (fVar 0) (f2 modD (fVar 1) (fB1 lenD (aCons (fVar 0) aNil)))) (f2 mulD (fC (.int 6553)) (f2 fdivD (fVar 1) (fB1 lenD (aCons (fVar 0) aNil)))))))
def F__law_cell : List Dv → Option (Rs Dv) := runF 2 B__law_cell
set_option maxHeartbeats 4000000 in
theorem fn__law_cell {P : Program} {w : World} {K : PySem.W.Frag} {mg : Str → Option Value} {base : Heap} {f : Addr} {fd : FuncData} (Fn : Fun K "_law_cell" "_law_cell" s__law_cell f fd) (m_len : mg "len" = none) :
    FnOk P w K mg base CX0 1 f fd ["_law_script", "_law_k"] (spF K F__law_cell 2) :=
  fn_ok2 (k := 0) ["_law_script", "_law_k"] ["_law_script", "_law_k"] B__law_cell (by kernel_rfl) (by kernel_rfl) Fn sc__law_cell fun cdv A outer s H E hr => (fss_cons (fs_if (ft_cmp (o_scr hr.units0) g_scr (fe_lv 0) (fe_lst fa_nil) (nomark _)) (fss_one (fs_ret (fe_op op_mul g_mul fe_int (fe_lv 1)))) fss_nil) (fss_one (fs_ret (fe_op o_add g_add (fe_ix (fe_lv 0) (fe_op op_mod g_mod (fe_lv 1) (fe_len (glb (by kernel_rfl)) m_len (fa_cons (fe_lv 0) fa_nil)))) (fe_op op_mul g_mul fe_int (fe_op op_fdiv g_fdiv (fe_lv 1) (fe_len (glb (by kernel_rfl)) m_len (fa_cons (fe_lv 0) fa_nil))))))))
/-! _law_drawn(_law_script, _law_k, _law_many) N -/
def B__law_drawn : FnS := (fSeq (fSet 3 (f2 modD (f2 addD (f2 mulD (f2 modD (fCall F__law_cell 2 (aCons (fVar 0) (aCons (fVar 1) aNil))) (fC (.int 2147483563))) (fC (.int 69069))) (f2 mulD (fC (.int 104723)) (f2 addD (fVar 1) (fC (.int 1))))) (fC (.int 2147483563)))) (fSeq (fSet 3 (f2 modD (f2 addD (f2 mulD (fVar 3) (fVar 3)) (f2 fdivD (fVar 3) (fC (.int 3)))) (fC (.int 2147483399)))) (fRet (f2 modD (f2 fdivD (f2 modD (f2 addD (f2 mulD (fVar 3) (fVar 3)) (f2 fdivD (fVar 3) (fC (.int 7)))) (fC (.int 2147483647))) (fC (.int 11))) (fVar 2)))))
def F__law_drawn : List Dv → Option (Rs Dv) := runF 4 B__law_drawn
set_option maxHeartbeats 4000000 in
theorem fn__law_drawn {P : Program} {w : World} {K : PySem.W.Frag} {mg : Str → Option Value} {base : Heap} {f : Addr} {fd : FuncData} (Fn : Fun K "_law_drawn" "_law_drawn" s__law_drawn f fd) (h__law_cell : Has P w K mg base "_law_cell" 1 ["_law_script", "_law_k"] F__law_cell) :
    FnOk P w K mg base CX0 2 f fd ["_law_script", "_law_k", "_law_many"] (spF K F__law_drawn 3) :=
  fn_ok2 (k := 1) ["_law_script", "_law_k", "_law_many", "_law_cell_here"] ["_law_script", "_law_k", "_law_many"] B__law_drawn (by kernel_rfl) (by kernel_rfl) Fn sc__law_drawn fun cdv A outer s H E hr => (fss_cons (fs_set 3 sc__law_drawn.nd (by kernel_rfl) (.inl (by kernel_rfl)) (fe_op op_mod g_mod (fe_op o_add g_add (fe_op op_mul g_mul (fe_op op_mod g_mod (fe_callH (k' := 1) 1 ["_law_script", "_law_k"] F__law_cell h__law_cell hr (by decide) (glb (by kernel_rfl)) (fa_cons (fe_lv 0) (fa_cons (fe_lv 1) fa_nil))) fe_int) fe_int) (fe_op op_mul g_mul fe_int (fe_op o_add g_add (fe_lv 1) fe_int))) fe_int)) (fss_cons (fs_set 3 sc__law_drawn.nd (by kernel_rfl) (.inl (by kernel_rfl)) (fe_op op_mod g_mod (fe_op o_add g_add (fe_op op_mul g_mul (fe_lv 3) (fe_lv 3)) (fe_op op_fdiv g_fdiv (fe_lv 3) fe_int)) fe_int)) (fss_one (fs_ret (fe_op op_mod g_mod (fe_op op_fdiv g_fdiv (fe_op op_mod g_mod (fe_op o_add g_add (fe_op op_mul g_mul (fe_lv 3) (fe_lv 3)) (fe_op op_fdiv g_fdiv (fe_lv 3) fe_int)) fe_int) fe_int) (fe_lv 2))))))
/-! _law_name(_law_script, _law_at) N -/
def B__law_name : FnS := (fSeq (fSet 2 (fLst (aCons (fC (.str "a.b")) (aCons (fC (.str "b")) (aCons (fC (.str "x.a.b")) (aCons (fC (.str "y.x.a.b")) (aCons (fC (.str "c.uk")) (aCons (fC (.str "uk")) (aCons (fC (.str "d.c.uk")) (aCons (fC (.str "e.d.c.uk")) aNil)))))))))) (fSeq (fSet 2 (f2 addD (fVar 2) (fLst (aCons (fC (.str "w.ck")) (aCons (fC (.str "v.w.ck")) (aCons (fC (.str "ck")) (aCons (fC (.str "g-1.a.b")) (aCons (fC (.str "7.b")) (aCons (fC (.str "p.q")) aNil))))))))) (fRet (f2 ixD (fVar 2) (fCall F__law_drawn 3 (aCons (fVar 0) (aCons (fVar 1) (aCons (fB1 lenD (aCons (fVar 2) aNil)) aNil))))))))
def F__law_name : List Dv → Option (Rs Dv) := runF 3 B__law_name
set_option maxHeartbeats 4000000 in
theorem fn__law_name {P : Program} {w : World} {K : PySem.W.Frag} {mg : Str → Option Value} {base : Heap} {f : Addr} {fd : FuncData} (Fn : Fun K "_law_name" "_law_name" s__law_name f fd) (h__law_drawn : Has P w K mg base "_law_drawn" 2 ["_law_script", "_law_k", "_law_many"] F__law_drawn) (m_len : mg "len" = none) :
    FnOk P w K mg base CX0 3 f fd ["_law_script", "_law_at"] (spF K F__law_name 2) :=
  fn_ok2 (k := 2) ["_law_script", "_law_at", "_law_some"] ["_law_script", "_law_at"] B__law_name (by kernel_rfl) (by kernel_rfl) Fn sc__law_name fun cdv A outer s H E hr => (fss_cons (fs_set 2 sc__law_name.nd (by kernel_rfl) (.inl (by kernel_rfl)) (fe_lst (fa_cons fe_str (fa_cons fe_str (fa_cons fe_str (fa_cons fe_str (fa_cons fe_str (fa_cons fe_str (fa_cons fe_str (fa_cons fe_str fa_nil)))))))))) (fss_cons (fs_set 2 sc__law_name.nd (by kernel_rfl) (.inl (by kernel_rfl)) (fe_op o_add g_add (fe_lv 2) (fe_lst (fa_cons fe_str (fa_cons fe_str (fa_cons fe_str (fa_cons fe_str (fa_cons fe_str (fa_cons fe_str fa_nil))))))))) (fss_one (fs_ret (fe_ix (fe_lv 2) (fe_callH (k' := 2) 2 ["_law_script", "_law_k", "_law_many"] F__law_drawn h__law_drawn hr (by decide) (glb (by kernel_rfl)) (fa_cons (fe_lv 0) (fa_cons (fe_lv 1) (fa_cons (fe_len (glb (by kernel_rfl)) m_len (fa_cons (fe_lv 2) fa_nil)) fa_nil)))))))))
/-! _law_spoilt(_law_script, _law_at, _law_text) N -/
def B__law_spoilt : FnS := (fSeq (fSet 3 (fCall F__law_drawn 3 (aCons (fVar 0) (aCons (fVar 1) (aCons (f2 addD (fB1 lenD (aCons (fVar 2) aNil)) (fC (.int 1))) aNil))))) (fSeq (fSet 4 (f2 ixD (fC (.str "az09-._A /*!")) (fCall F__law_drawn 3 (aCons (fVar 0) (aCons (f2 addD (fVar 1) (fC (.int 1))) (aCons (fC (.int 12)) aNil)))))) (fSeq (fSet 5 (fLst (aCons (f2 addD (f2 addD (fCut (fVar 2) oNone (oSome (fVar 3))) (fVar 4)) (fCut (fVar 2) (oSome (fVar 3)) oNone)) (aCons (f2 addD (f2 addD (fCut (fVar 2) oNone (oSome (fVar 3))) (fVar 4)) (fCut (fVar 2) (oSome (f2 addD (fVar 3) (fC (.int 1)))) oNone)) (aCons (f2 addD (fCut (fVar 2) oNone (oSome (fVar 3))) (fCut (fVar 2) (oSome (f2 addD (fVar 3) (fC (.int 1)))) oNone)) aNil))))) (fSeq (fSet 5 (f2 addD (fVar 5) (fLst (aCons (fVar 2) (aCons (fCut (fVar 2) (oSome (fVar 3)) oNone) (aCons (f2 addD (fVar 2) (fVar 2)) (aCons (f2 addD (fCut (fVar 2) oNone (oSome (f2 addD (fVar 3) (fC (.int 1))))) (fCut (fVar 2) (oSome (fVar 3)) oNone)) aNil))))))) (fRet (f2 ixD (fVar 5) (fCall F__law_drawn 3 (aCons (fVar 0) (aCons (f2 addD (fVar 1) (fC (.int 2))) (aCons (fC (.int 7)) aNil))))))))))
def F__law_spoilt : List Dv → Option (Rs Dv) := runF 6 B__law_spoilt
set_option maxHeartbeats 4000000 in
theorem fn__law_spoilt {P : Program} {w : World} {K : PySem.W.Frag} {mg : Str → Option Value} {base : Heap} {f : Addr} {fd : FuncData} (Fn : Fun K "_law_spoilt" "_law_spoilt" s__law_spoilt f fd) (h__law_drawn : Has P w K mg base "_law_drawn" 2 ["_law_script", "_law_k", "_law_many"] F__law_drawn) (m_len : mg "len" = none) :
    FnOk P w K mg base CX0 3 f fd ["_law_script", "_law_at", "_law_text"] (spF K F__law_spoilt 3) :=
  fn_ok2 (k := 2) ["_law_script", "_law_at", "_law_text", "_law_place", "_law_sign", "_law_some"] ["_law_script", "_law_at", "_law_text"] B__law_spoilt (by kernel_rfl) (by kernel_rfl) Fn sc__law_spoilt fun cdv A outer s H E hr => (fss_cons (fs_set 3 sc__law_spoilt.nd (by kernel_rfl) (.inl (by kernel_rfl)) (fe_callH (k' := 2) 2 ["_law_script", "_law_k", "_law_many"] F__law_drawn h__law_drawn hr (by decide) (glb (by kernel_rfl)) (fa_cons (fe_lv 0) (fa_cons (fe_lv 1) (fa_cons (fe_op o_add g_add (fe_len (glb (by kernel_rfl)) m_len (fa_cons (fe_lv 2) fa_nil)) fe_int) fa_nil))))) (fss_cons (fs_set 4 sc__law_spoilt.nd (by kernel_rfl) (.inl (by kernel_rfl)) (fe_ix fe_str (fe_callH (k' := 2) 2 ["_law_script", "_law_k", "_law_many"] F__law_drawn h__law_drawn hr (by decide) (glb (by kernel_rfl)) (fa_cons (fe_lv 0) (fa_cons (fe_op o_add g_add (fe_lv 1) fe_int) (fa_cons fe_int fa_nil)))))) (fss_cons (fs_set 5 sc__law_spoilt.nd (by kernel_rfl) (.inl (by kernel_rfl)) (fe_lst (fa_cons (fe_op o_add g_add (fe_op o_add g_add (fe_cut (fe_lv 2) fo_none (fo_some (fe_lv 3))) (fe_lv 4)) (fe_cut (fe_lv 2) (fo_some (fe_lv 3)) fo_none)) (fa_cons (fe_op o_add g_add (fe_op o_add g_add (fe_cut (fe_lv 2) fo_none (fo_some (fe_lv 3))) (fe_lv 4)) (fe_cut (fe_lv 2) (fo_some (fe_op o_add g_add (fe_lv 3) fe_int)) fo_none)) (fa_cons (fe_op o_add g_add (fe_cut (fe_lv 2) fo_none (fo_some (fe_lv 3))) (fe_cut (fe_lv 2) (fo_some (fe_op o_add g_add (fe_lv 3) fe_int)) fo_none)) fa_nil))))) (fss_cons (fs_set 5 sc__law_spoilt.nd (by kernel_rfl) (.inl (by kernel_rfl)) (fe_op o_add g_add (fe_lv 5) (fe_lst (fa_cons (fe_lv 2) (fa_cons (fe_cut (fe_lv 2) (fo_some (fe_lv 3)) fo_none) (fa_cons (fe_op o_add g_add (fe_lv 2) (fe_lv 2)) (fa_cons (fe_op o_add g_add (fe_cut (fe_lv 2) fo_none (fo_some (fe_op o_add g_add (fe_lv 3) fe_int))) (fe_cut (fe_lv 2) (fo_some (fe_lv 3)) fo_none)) fa_nil))))))) (fss_one (fs_ret (fe_ix (fe_lv 5) (fe_callH (k' := 2) 2 ["_law_script", "_law_k", "_law_many"] F__law_drawn h__law_drawn hr (by decide) (glb (by kernel_rfl)) (fa_cons (fe_lv 0) (fa_cons (fe_op o_add g_add (fe_lv 1) fe_int) (fa_cons fe_int fa_nil)))))))))))
/-! _law_refused(_law_e) M -/
def BM__law_refused : FnS := (fSeq (fSet 1 (fLst (aCons (f1 (isX (fun c => if c < 7 then some (c == 0) else none)) (fVar 0)) (aCons (f1 (isX (fun c => if c < 7 then some (c == 1) else none)) (fVar 0)) (aCons (f1 (isX (fun c => if c < 7 then some (c == 2) else none)) (fVar 0)) aNil))))) (fSeq (fSet 1 (f2 addD (fVar 1) (fLst (aCons (f1 (isX (fun c => if c < 7 then some (c == 3) else none)) (fVar 0)) (aCons (f1 (isX (fun c => if c < 7 then some (c == 4) else none)) (fVar 0)) (aCons (f1 (isX (fun c => if c < 7 then some (c == 5) else none)) (fVar 0)) aNil)))))) (fSeq (fSet 1 (f2 addD (fVar 1) (fLst (aCons (f1 (isX (fun c => if c < 7 then some (c == 6) else none)) (fVar 0)) aNil)))) (fSeq (fIfS (bOr (fB (f2 neX (fML cntD (fVar 1) (aCons (fC (.bl true)) aNil)) (fC (.int 1)))) (bNot (fB (f1 (isX (fun c => if c < 7 then some true else none)) (fVar 0))))) (fRet (fTup (aCons (fC (.str "refused")) (aCons (f1 negD (fC (.int 1))) aNil)))) (fun ρ => some (.nx ρ))) (fRet (fTup (aCons (fC (.str "refused")) (aCons (fML idxD (fVar 1) (aCons (fC (.bl true)) aNil)) aNil))))))))
def FM__law_refused : List Dv → Option (Rs Dv) := runF 2 BM__law_refused
set_option maxHeartbeats 4000000 in
theorem fm__law_refused {P : Program} {w : World} {K : PySem.W.Frag} {mg : Str → Option Value} {base : Heap} {f : Addr} {fd : FuncData} (Fn : Fun K "_law_refused" "_law_refused" s__law_refused f fd) (m_ValueError : mg "ValueError" = none) (m_isinstance : mg "isinstance" = none) {cls : Nat → Addr} {CJ : Addr} (xa : XAll K 7 cls CJ) (m_NoAsk : mg "NoAsk" = some (.ref (cls 3))) (m_NoJar : mg "NoJar" = some (.ref (cls 5))) (m_NoName : mg "NoName" = some (.ref (cls 0))) (m_NoNote : mg "NoNote" = some (.ref (cls 4))) (m_NoNumber : mg "NoNumber" = some (.ref (cls 6))) (m_NoPath : mg "NoPath" = some (.ref (cls 2))) (m_NoTable : mg "NoTable" = some (.ref (cls 1))) :
    FnM P w K mg base 1 f fd ["_law_e"] FM__law_refused :=
  fn_okM (k := 0) ["_law_e", "_law_flags"] ["_law_e"] BM__law_refused (by kernel_rfl) Fn sc__law_refused fun cdv A outer s H hr => (fss_cons (fs_set 1 sc__law_refused.nd (by kernel_rfl) (.inl (by kernel_rfl)) (fe_lst (fa_cons (fe_isO (xa.xtO 0 (by decide)) m_NoName (glb (by kernel_rfl)) (by kernel_rfl) (glb (by kernel_rfl)) m_isinstance (fe_lv 0)) (fa_cons (fe_isO (xa.xtO 1 (by decide)) m_NoTable (glb (by kernel_rfl)) (by kernel_rfl) (glb (by kernel_rfl)) m_isinstance (fe_lv 0)) (fa_cons (fe_isO (xa.xtO 2 (by decide)) m_NoPath (glb (by kernel_rfl)) (by kernel_rfl) (glb (by kernel_rfl)) m_isinstance (fe_lv 0)) fa_nil))))) (fss_cons (fs_set 1 sc__law_refused.nd (by kernel_rfl) (.inl (by kernel_rfl)) (fe_op o_add g_add (fe_lv 1) (fe_lst (fa_cons (fe_isO (xa.xtO 3 (by decide)) m_NoAsk (glb (by kernel_rfl)) (by kernel_rfl) (glb (by kernel_rfl)) m_isinstance (fe_lv 0)) (fa_cons (fe_isO (xa.xtO 4 (by decide)) m_NoNote (glb (by kernel_rfl)) (by kernel_rfl) (glb (by kernel_rfl)) m_isinstance (fe_lv 0)) (fa_cons (fe_isO (xa.xtO 5 (by decide)) m_NoJar (glb (by kernel_rfl)) (by kernel_rfl) (glb (by kernel_rfl)) m_isinstance (fe_lv 0)) fa_nil)))))) (fss_cons (fs_set 1 sc__law_refused.nd (by kernel_rfl) (.inl (by kernel_rfl)) (fe_op o_add g_add (fe_lv 1) (fe_lst (fa_cons (fe_isO (xa.xtO 6 (by decide)) m_NoNumber (glb (by kernel_rfl)) (by kernel_rfl) (glb (by kernel_rfl)) m_isinstance (fe_lv 0)) fa_nil)))) (fss_cons (fs_if (FW.ft (fw_or (ft_cmp (o_neX hr.units) g_neX (fe_count (fe_lv 1) (fa_cons fe_bl fa_nil)) fe_int (nomark _)) (fw_or1 (ft_not (ft_val (fe_isB (T := "ValueError") xa.xtV bt_ValueError (by decide +kernel) (by kernel_rfl) (glb (by kernel_rfl)) m_isinstance (glb (by kernel_rfl)) m_ValueError (fe_lv 0))))))) (fss_one (fs_ret (fe_tup (fa_cons fe_str (fa_cons (fe_neg fe_int) fa_nil))))) fss_nil) (fss_one (fs_ret (fe_tup (fa_cons fe_str (fa_cons (fe_index (fe_lv 1) (fa_cons fe_bl fa_nil)) fa_nil)))))))))
/-! is_text_of(thing, signs, least, most) N -/
def B_is_text_of : FnS := (fSeq (fIfS (bNot (fB (f1 (isiD tbStr) (fVar 0)))) (fRet (fC (.bl false))) (fun ρ => some (.nx ρ))) (fSeq (fIfS (bOr (fB (f2 ltX (fB1 lenD (aCons (fVar 0) aNil)) (fVar 2))) (fB (f2 gtD (fB1 lenD (aCons (fVar 0) aNil)) (fVar 3)))) (fRet (fC (.bl false))) (fun ρ => some (.nx ρ))) (fRet (fB1 allD (aCons (fComp [("signs", 1)] (iSeq (fVar 0)) none (f2 inD (fVar 0) (fVar 1))) aNil)))))
def F_is_text_of : List Dv → Option (Rs Dv) := runF 4 B_is_text_of
set_option maxHeartbeats 4000000 in
theorem fn_is_text_of {P : Program} {w : World} {K : PySem.W.Frag} {mg : Str → Option Value} {base : Heap} {f : Addr} {fd : FuncData} (Fn : Fun K "is_text_of" "is_text_of" s_is_text_of f fd) (m_all : mg "all" = none) (m_isinstance : mg "isinstance" = none) (m_len : mg "len" = none) (m_str : mg "str" = none) :
    FnOk P w K mg base CX0 1 f fd ["thing", "signs", "least", "most"] (spF K F_is_text_of 4) :=
  fn_ok2 (k := 0) ["thing", "signs", "least", "most"] ["thing", "signs", "least", "most"] B_is_text_of (by kernel_rfl) (by kernel_rfl) Fn sc_is_text_of fun cdv A outer s H E hr => (fss_cons (fs_if (ft_not (ft_val (fe_isi (T := "str") kit_str bt_str (by decide +kernel) (by kernel_rfl) (glb (by kernel_rfl)) m_isinstance (glb (by kernel_rfl)) m_str (fe_lv 0)))) (fss_one (fs_ret fe_bl)) fss_nil) (fss_cons (fs_if (FW.ft (fw_or (ft_cmp o_ltX g_ltX (fe_len (glb (by kernel_rfl)) m_len (fa_cons (fe_lv 0) fa_nil)) (fe_lv 2) (nomark _)) (fw_or1 (ft_cmp op_gt (g_cmp _) (fe_len (glb (by kernel_rfl)) m_len (fa_cons (fe_lv 0) fa_nil)) (fe_lv 3) (nomark _))))) (fss_one (fs_ret fe_bl)) fss_nil) (fss_one (fs_ret (fe_all rfl (glb (by kernel_rfl)) m_all (fa_cons (fe_comp (defScope s_is_text_of) ["thing", "signs", "least", "most"] [("signs", 1)] (by kernel_rfl) (by kernel_rfl) ⟨by kernel_rfl, by kernel_rfl, by decide +kernel, by decide +kernel, by kernel_rfl, by decide +kernel, by decide +kernel, by decide +kernel⟩ (by kernel_rfl) rfl (fi_seq (fe_lv 0)) (fun _ _ _ _ => (fe_cmp o_in g_in (fe_lv 0) (fe_cv 1) (by kernel_rfl))) (fun _ _ _ _ => rfl)) fa_nil))))))
/-! is_label(thing) N -/
def B_is_label : FnS := (fSeq (fIfS (bNot (fB (fCall F_is_text_of 4 (aCons (fVar 0) (aCons (fC (.str "abcdefghijklmnopqrstuvwxyz0123456789-")) (aCons (fC (.int 1)) (aCons (fC (.int 8)) aNil))))))) (fRet (fC (.bl false))) (fun ρ => some (.nx ρ))) (fRet (vAnd (vNot (fM (strB Txt.startswith) (fVar 0) (aCons (fC (.str "-")) aNil))) (vNot (fM (strB Txt.endswith) (fVar 0) (aCons (fC (.str "-")) aNil))))))
def F_is_label : List Dv → Option (Rs Dv) := runF 1 B_is_label
set_option maxHeartbeats 4000000 in
theorem fn_is_label {P : Program} {w : World} {K : PySem.W.Frag} {mg : Str → Option Value} {base : Heap} {f : Addr} {fd : FuncData} (Fn : Fun K "is_label" "is_label" s_is_label f fd) (h_is_text_of : Has P w K mg base "is_text_of" 1 ["thing", "signs", "least", "most"] F_is_text_of) {t_LABEL_SIGNS : Tok} (m_LABEL_SIGNS : mg "LABEL_SIGNS" = some (.str (Str.ofString "abcdefghijklmnopqrstuvwxyz0123456789-") t_LABEL_SIGNS)) {t_LONGEST_LABEL : Tok} (m_LONGEST_LABEL : mg "LONGEST_LABEL" = some (.int 8 t_LONGEST_LABEL)) :
    FnOk P w K mg base CX0 2 f fd ["thing"] (spF K F_is_label 1) :=
  fn_ok2 (k := 1) ["thing"] ["thing"] B_is_label (by kernel_rfl) (by kernel_rfl) Fn sc_is_label fun cdv A outer s H E hr => (fss_cons (fs_if (ft_not (ft_val (fe_callH (k' := 1) 1 ["thing", "signs", "least", "most"] F_is_text_of h_is_text_of hr (by decide) (glb (by kernel_rfl)) (fa_cons (fe_lv 0) (fa_cons (fe_gstr (glb (by kernel_rfl)) m_LABEL_SIGNS) (fa_cons fe_int (fa_cons (fe_gint (glb (by kernel_rfl)) m_LONGEST_LABEL) fa_nil))))))) (fss_one (fs_ret fe_bl)) fss_nil) (fss_one (fs_ret (fe_and (fe_not (fe_strM PySem.F.slot_str_startswith PySem.F.type_str_startswith mt_sw g_strB (fe_lv 0) (fa_cons fe_str fa_nil))) (fe_one (fe_not (fe_strM PySem.F.slot_str_endswith PySem.F.type_str_endswith mt_ew g_strB (fe_lv 0) (fa_cons fe_str fa_nil))))))))
/-! is_name(thing) N -/
def B_is_name : FnS := (fSeq (fIfS (bNot (fB (f1 (isiD tbStr) (fVar 0)))) (fRet (fC (.bl false))) (fun ρ => some (.nx ρ))) (fSeq (fSet 1 (fM (splitD) (fVar 0) (aCons (fC (.str ".")) aNil))) (fSeq (fIfS (bOr (fB (f2 gtD (fB1 lenD (aCons (fVar 1) aNil)) (fC (.int 5)))) (bNot (fB (fB1 allD (aCons (fComp [] (iSeq (fVar 1)) none (fCall F_is_label 1 (aCons (fVar 0) aNil))) aNil))))) (fRet (fC (.bl false))) (fun ρ => some (.nx ρ))) (fRet (vNot (fCall F_is_text_of 4 (aCons (f2 ixD (fVar 1) (f1 negD (fC (.int 1)))) (aCons (fC (.str "0123456789")) (aCons (fC (.int 1)) (aCons (fC (.int 8)) aNil))))))))))
def F_is_name : List Dv → Option (Rs Dv) := runF 2 B_is_name
set_option maxHeartbeats 4000000 in
theorem fn_is_name {P : Program} {w : World} {K : PySem.W.Frag} {mg : Str → Option Value} {base : Heap} {f : Addr} {fd : FuncData} (Fn : Fun K "is_name" "is_name" s_is_name f fd) (h_is_label : Has P w K mg base "is_label" 2 ["thing"] F_is_label) (h_is_text_of : Has P w K mg base "is_text_of" 1 ["thing", "signs", "least", "most"] F_is_text_of) (m_all : mg "all" = none) (m_isinstance : mg "isinstance" = none) (m_len : mg "len" = none) (m_str : mg "str" = none) {t_FIGURES : Tok} (m_FIGURES : mg "FIGURES" = some (.str (Str.ofString "0123456789") t_FIGURES)) {t_LONGEST_LABEL : Tok} (m_LONGEST_LABEL : mg "LONGEST_LABEL" = some (.int 8 t_LONGEST_LABEL)) {t_MOST_LABELS : Tok} (m_MOST_LABELS : mg "MOST_LABELS" = some (.int 5 t_MOST_LABELS)) :
    FnOk P w K mg base CX0 3 f fd ["thing"] (spF K F_is_name 1) :=
  fn_ok2 (k := 2) ["thing", "parts"] ["thing"] B_is_name (by kernel_rfl) (by kernel_rfl) Fn sc_is_name fun cdv A outer s H E hr => (fss_cons (fs_if (ft_not (ft_val (fe_isi (T := "str") kit_str bt_str (by decide +kernel) (by kernel_rfl) (glb (by kernel_rfl)) m_isinstance (glb (by kernel_rfl)) m_str (fe_lv 0)))) (fss_one (fs_ret fe_bl)) fss_nil) (fss_cons (fs_set 1 sc_is_name.nd (by kernel_rfl) (.inl (by kernel_rfl)) (fe_strM PySem.F.slot_str_split PySem.F.type_str_split mt_split g_split (fe_lv 0) (fa_cons fe_str fa_nil))) (fss_cons (fs_if (FW.ft (fw_or (ft_cmp op_gt (g_cmp _) (fe_len (glb (by kernel_rfl)) m_len (fa_cons (fe_lv 1) fa_nil)) (fe_gint (glb (by kernel_rfl)) m_MOST_LABELS) (nomark _)) (fw_or1 (ft_not (ft_val (fe_all rfl (glb (by kernel_rfl)) m_all (fa_cons (fe_comp (defScope s_is_name) ["thing", "parts"] [] (by kernel_rfl) (by kernel_rfl) ⟨by kernel_rfl, by kernel_rfl, by decide +kernel, by decide +kernel, by kernel_rfl, by decide +kernel, by decide +kernel, by decide +kernel⟩ (by kernel_rfl) rfl (fi_seq (fe_lv 1)) (fun _ _ _ _ => (fe_callH (k' := 2) 2 ["thing"] F_is_label h_is_label hr (by decide) (glb (by kernel_rfl)) (fa_cons (fe_lv 0) fa_nil))) (fun _ _ _ _ => rfl)) fa_nil))))))) (fss_one (fs_ret fe_bl)) fss_nil) (fss_one (fs_ret (fe_not (fe_callH (k' := 2) 1 ["thing", "signs", "least", "most"] F_is_text_of h_is_text_of hr (by decide) (glb (by kernel_rfl)) (fa_cons (fe_ix (fe_lv 1) (fe_neg fe_int)) (fa_cons (fe_gstr (glb (by kernel_rfl)) m_FIGURES) (fa_cons fe_int (fa_cons (fe_gint (glb (by kernel_rfl)) m_LONGEST_LABEL) fa_nil)))))))))))
/-! need_name(thing) E -/
def BX_need_name : FnS := (fIfS (bNot (fB (fCall F_is_name 1 (aCons (fVar 0) aNil)))) (fRaise 0 (fC (.str "this is no name"))) (fun ρ => some (.nx ρ)))
def FX_need_name : List Dv → Option (Rs Dv) := runE 1 BX_need_name
set_option maxHeartbeats 4000000 in
theorem fx_need_name {P : Program} {w : World} {K : PySem.W.Frag} {mg : Str → Option Value} {base : Heap} {f : Addr} {fd : FuncData} (Fn : Fun K "need_name" "need_name" s_need_name f fd) (h_is_name : Has P w K mg base "is_name" 3 ["thing"] F_is_name) {cls : Nat → Addr} {CJ : Addr} (xa : XAll K 7 cls CJ) (m_NoName : mg "NoName" = some (.ref (cls 0))) :
    FnOk P w K mg base (CXE P w) 4 f fd ["thing"] (spE K FX_need_name 1) :=
  fn_okE (k := 3) ["thing"] ["thing"] BX_need_name (by kernel_rfl) (by kernel_rfl) Fn sc_need_name fun cdv A outer s H E hr => (fss_one (fs_if (ft_not (ft_val (fe_callH (k' := 3) 3 ["thing"] F_is_name h_is_name hr (by decide) (glb (by kernel_rfl)) (fa_cons (fe_lv 0) fa_nil)))) (fss_one (fs_raise 0 (xa.xc 0 (by decide)) (by kernel_rfl) m_NoName rfl rfl (glb (by kernel_rfl)) fe_str)) fss_nil))
/-! labels(name) E -/
def BX_labels : FnS := (fSeq (fDrop (fCallE FX_need_name 1 (aCons (fVar 0) aNil))) (fRet (fM (splitD) (fVar 0) (aCons (fC (.str ".")) aNil))))
def FX_labels : List Dv → Option (Rs Dv) := runE 1 BX_labels
set_option maxHeartbeats 4000000 in
theorem fx_labels {P : Program} {w : World} {K : PySem.W.Frag} {mg : Str → Option Value} {base : Heap} {f : Addr} {fd : FuncData} (Fn : Fun K "labels" "labels" s_labels f fd) (hx_need_name : HasE P w K mg base "need_name" 4 ["thing"] FX_need_name) :
    FnOk P w K mg base (CXE P w) 5 f fd ["name"] (spE K FX_labels 1) :=
  fn_okE (k := 4) ["name"] ["name"] BX_labels (by kernel_rfl) (by kernel_rfl) Fn sc_labels fun cdv A outer s H E hr => (fss_cons (fs_expr (fe_callE (k' := 4) 4 ["thing"] FX_need_name hx_need_name hr (by decide) rfl (glb (by kernel_rfl)) (fa_cons (fe_lv 0) fa_nil))) (fss_one (fs_ret (fe_strM PySem.F.slot_str_split PySem.F.type_str_split mt_split g_split (fe_lv 0) (fa_cons fe_str fa_nil)))))
/-! lies_within(one, other) N -/
def B_lies_within : FnS := (fRet (vOr (f2 eqX (fVar 0) (fVar 1)) (fM (strB Txt.endswith) (fVar 0) (aCons (f2 addD (fC (.str ".")) (fVar 1)) aNil))))
def F_lies_within : List Dv → Option (Rs Dv) := runF 2 B_lies_within
set_option maxHeartbeats 4000000 in
theorem fn_lies_within {P : Program} {w : World} {K : PySem.W.Frag} {mg : Str → Option Value} {base : Heap} {f : Addr} {fd : FuncData} (Fn : Fun K "lies_within" "lies_within" s_lies_within f fd) :
    FnOk P w K mg base CX0 1 f fd ["one", "other"] (spF K F_lies_within 2) :=
  fn_ok2 (k := 0) ["one", "other"] ["one", "other"] B_lies_within (by kernel_rfl) (by kernel_rfl) Fn sc_lies_within fun cdv A outer s H E hr => (fss_one (fs_ret (fe_or (fe_cmp (o_eqX hr.units) g_eqX (fe_lv 0) (fe_lv 1) (nomark _)) (fe_one (fe_strM PySem.F.slot_str_endswith PySem.F.type_str_endswith mt_ew g_strB (fe_lv 0) (fa_cons (fe_op o_add g_add fe_str (fe_lv 1)) fa_nil))))))
/-! within(one, other) E -/
def BX_within : FnS := (fSeq (fDrop (fCallE FX_need_name 1 (aCons (fVar 0) aNil))) (fSeq (fDrop (fCallE FX_need_name 1 (aCons (fVar 1) aNil))) (fRet (fCall F_lies_within 2 (aCons (fVar 0) (aCons (fVar 1) aNil))))))
def FX_within : List Dv → Option (Rs Dv) := runE 2 BX_within
set_option maxHeartbeats 4000000 in
theorem fx_within {P : Program} {w : World} {K : PySem.W.Frag} {mg : Str → Option Value} {base : Heap} {f : Addr} {fd : FuncData} (Fn : Fun K "within" "within" s_within f fd) (h_lies_within : Has P w K mg base "lies_within" 1 ["one", "other"] F_lies_within) (hx_need_name : HasE P w K mg base "need_name" 4 ["thing"] FX_need_name) :
    FnOk P w K mg base (CXE P w) 5 f fd ["one", "other"] (spE K FX_within 2) :=
  fn_okE (k := 4) ["one", "other"] ["one", "other"] BX_within (by kernel_rfl) (by kernel_rfl) Fn sc_within fun cdv A outer s H E hr => (fss_cons (fs_expr (fe_callE (k' := 4) 4 ["thing"] FX_need_name hx_need_name hr (by decide) rfl (glb (by kernel_rfl)) (fa_cons (fe_lv 0) fa_nil))) (fss_cons (fs_expr (fe_callE (k' := 4) 4 ["thing"] FX_need_name hx_need_name hr (by decide) rfl (glb (by kernel_rfl)) (fa_cons (fe_lv 1) fa_nil))) (fss_one (fs_ret (fe_callH (k' := 4) 1 ["one", "other"] F_lies_within h_lies_within hr (by decide) (glb (by kernel_rfl)) (fa_cons (fe_lv 0) (fa_cons (fe_lv 1) fa_nil)))))))
/-! _law_told(_law_way, _law_one, _law_other) N -/
def B__law_told : FnS := (fTry 7 3 4 (fIf (fB (f2 eqX (fVar 0) (fC (.int 0)))) (fCallE FX_labels 1 (aCons (fVar 1) aNil)) (fCallE FX_within 2 (aCons (fVar 1) (aCons (fVar 2) aNil)))) (fCall FM__law_refused 1 (aCons (fVar 3) aNil)))
def F__law_told : List Dv → Option (Rs Dv) := runF 4 B__law_told
set_option maxHeartbeats 4000000 in
theorem fn__law_told {P : Program} {w : World} {K : PySem.W.Frag} {mg : Str → Option Value} {base : Heap} {f : Addr} {fd : FuncData} (Fn : Fun K "_law_told" "_law_told" s__law_told f fd) (hm__law_refused : HasM P w K mg base "_law_refused" 1 ["_law_e"] FM__law_refused) (hx_labels : HasE P w K mg base "labels" 5 ["name"] FX_labels) (hx_within : HasE P w K mg base "within" 5 ["one", "other"] FX_within) {cls : Nat → Addr} {CJ : Addr} (xa : XAll K 7 cls CJ) (m_JarError : mg "JarError" = some (.ref CJ)) :
    FnOk P w K mg base CX0 6 f fd ["_law_way", "_law_one", "_law_other"] (spF K F__law_told 3) :=
  fn_ok2 (k := 5) ["_law_way", "_law_one", "_law_other", "_law_e"] ["_law_way", "_law_one", "_law_other"] B__law_told (by kernel_rfl) (by kernel_rfl) Fn sc__law_told fun cdv A outer s H E hr => (fss_one (fs_try 7 3 4 rfl rfl rfl (glb (by kernel_rfl)) m_JarError xa.exJ xa.xk sc__law_told.nd (by kernel_rfl) (by kernel_rfl) rfl (fun pl E' => (fe_if (ft_cmp (o_eqX hr.units) g_eqX (fe_lv 0) fe_int (nomark _)) (fe_callE (k' := 5) 5 ["name"] FX_labels hx_labels hr (by decide) rfl (glb (by kernel_rfl)) (fa_cons (fe_lv 1) fa_nil)) (fe_callE (k' := 5) 5 ["one", "other"] FX_within hx_within hr (by decide) rfl (glb (by kernel_rfl)) (fa_cons (fe_lv 1) (fa_cons (fe_lv 2) fa_nil))))) (fun pl e => (fe_callM (k' := 5) 1 ["_law_e"] FM__law_refused hm__law_refused ⟨hr.dp, hr.un⟩ (by decide) (glb (by kernel_rfl)) (fa_cons (fe_lv 3) fa_nil)))))
/-! need_name(thing) N -/
def B_need_name : FnS := (fIfS (bNot (fB (fCall F_is_name 1 (aCons (fVar 0) aNil)))) fNever (fun ρ => some (.nx ρ)))
def F_need_name : List Dv → Option (Rs Dv) := runF 1 B_need_name
set_option maxHeartbeats 4000000 in
theorem fn_need_name {P : Program} {w : World} {K : PySem.W.Frag} {mg : Str → Option Value} {base : Heap} {f : Addr} {fd : FuncData} (Fn : Fun K "need_name" "need_name" s_need_name f fd) (h_is_name : Has P w K mg base "is_name" 3 ["thing"] F_is_name) :
    FnOk P w K mg base CX0 4 f fd ["thing"] (spF K F_need_name 1) :=
  fn_ok2 (k := 3) ["thing"] ["thing"] B_need_name (by kernel_rfl) (by kernel_rfl) Fn sc_need_name fun cdv A outer s H E hr => (fss_one (fs_if (ft_not (ft_val (fe_callH (k' := 3) 3 ["thing"] F_is_name h_is_name hr (by decide) (glb (by kernel_rfl)) (fa_cons (fe_lv 0) fa_nil)))) (fss_one fs_never) fss_nil))
/-! labels(name) N -/
def B_labels : FnS := (fSeq (fDrop (fCall F_need_name 1 (aCons (fVar 0) aNil))) (fRet (fM (splitD) (fVar 0) (aCons (fC (.str ".")) aNil))))
def F_labels : List Dv → Option (Rs Dv) := runF 1 B_labels
set_option maxHeartbeats 4000000 in
theorem fn_labels {P : Program} {w : World} {K : PySem.W.Frag} {mg : Str → Option Value} {base : Heap} {f : Addr} {fd : FuncData} (Fn : Fun K "labels" "labels" s_labels f fd) (h_need_name : Has P w K mg base "need_name" 4 ["thing"] F_need_name) :
    FnOk P w K mg base CX0 5 f fd ["name"] (spF K F_labels 1) :=
  fn_ok2 (k := 4) ["name"] ["name"] B_labels (by kernel_rfl) (by kernel_rfl) Fn sc_labels fun cdv A outer s H E hr => (fss_cons (fs_expr (fe_callH (k' := 4) 4 ["thing"] F_need_name h_need_name hr (by decide) (glb (by kernel_rfl)) (fa_cons (fe_lv 0) fa_nil))) (fss_one (fs_ret (fe_strM PySem.F.slot_str_split PySem.F.type_str_split mt_split g_split (fe_lv 0) (fa_cons fe_str fa_nil)))))
/-! within(one, other) N -/
def B_within : FnS := (fSeq (fDrop (fCall F_need_name 1 (aCons (fVar 0) aNil))) (fSeq (fDrop (fCall F_need_name 1 (aCons (fVar 1) aNil))) (fRet (fCall F_lies_within 2 (aCons (fVar 0) (aCons (fVar 1) aNil))))))
def F_within : List Dv → Option (Rs Dv) := runF 2 B_within
set_option maxHeartbeats 4000000 in
theorem fn_within {P : Program} {w : World} {K : PySem.W.Frag} {mg : Str → Option Value} {base : Heap} {f : Addr} {fd : FuncData} (Fn : Fun K "within" "within" s_within f fd) (h_lies_within : Has P w K mg base "lies_within" 1 ["one", "other"] F_lies_within) (h_need_name : Has P w K mg base "need_name" 4 ["thing"] F_need_name) :
    FnOk P w K mg base CX0 5 f fd ["one", "other"] (spF K F_within 2) :=
  fn_ok2 (k := 4) ["one", "other"] ["one", "other"] B_within (by kernel_rfl) (by kernel_rfl) Fn sc_within fun cdv A outer s H E hr => (fss_cons (fs_expr (fe_callH (k' := 4) 4 ["thing"] F_need_name h_need_name hr (by decide) (glb (by kernel_rfl)) (fa_cons (fe_lv 0) fa_nil))) (fss_cons (fs_expr (fe_callH (k' := 4) 4 ["thing"] F_need_name h_need_name hr (by decide) (glb (by kernel_rfl)) (fa_cons (fe_lv 1) fa_nil))) (fss_one (fs_ret (fe_callH (k' := 4) 1 ["one", "other"] F_lies_within h_lies_within hr (by decide) (glb (by kernel_rfl)) (fa_cons (fe_lv 0) (fa_cons (fe_lv 1) fa_nil)))))))
/-! law(_law_script) N -/
def r_law_0 : FnE := (vAnd (fCall F_within 2 (aCons (fVar 1) (aCons (fVar 1) aNil))) (vNot (f1 (isiD tbTup) (fCall F_labels 1 (aCons (fVar 1) aNil)))))
def c_law_0 : FnB := (fB (f2 neX (fCall F__law_told 3 (aCons (fC (.int 1)) (aCons (fVar 4) (aCons (fVar 2) aNil)))) (fVar 6)))
def v_law_0 : FnE := (fIf (fB (f2 ixD (fVar 5) (fC (.int 1)))) (vOr (f2 eqX (fVar 4) (fVar 2)) (fM (strB Txt.endswith) (fVar 4) (aCons (f2 addD (fC (.str ".")) (fVar 2)) aNil))) (fTup (aCons (fC (.str "refused")) (aCons (fC (.int 0)) aNil))))
def c_law_1 : FnB := (fB (f2 neX (fCall F__law_told 3 (aCons (fC (.int 1)) (aCons (fVar 1) (aCons (fVar 4) aNil)))) (fVar 6)))
def v_law_1 : FnE := (fIf (fB (f2 ixD (fVar 5) (fC (.int 1)))) (vOr (f2 eqX (fVar 1) (fVar 4)) (fM (strB Txt.endswith) (fVar 1) (aCons (f2 addD (fC (.str ".")) (fVar 4)) aNil))) (fTup (aCons (fC (.str "refused")) (aCons (fC (.int 0)) aNil))))
def c_law_2 : FnB := (fB (f2 neX (fCall F__law_told 3 (aCons (fC (.int 0)) (aCons (fVar 4) (aCons (fC .non) aNil)))) (fVar 6)))
def v_law_2 : FnE := (fIf (fB (f2 ixD (fVar 5) (fC (.int 1)))) (fM (splitD) (fVar 4) (aCons (fC (.str ".")) aNil)) (fTup (aCons (fC (.str "refused")) (aCons (fC (.int 0)) aNil))))
def c_law_3 : FnB := (fB (f2 neX (fComp [] (iSeq (fVar 5)) (some (bNot (fB (f1 (isiD tbBool) (fVar 0))))) (fVar 0)) (fLst aNil)))
def c_law_4 : FnB := (fB (f2 neX (fVar 5) (fLst (aCons (fCall F__law_is_label 1 (aCons (fVar 4) aNil)) (aCons (fCall F__law_is_name 1 (aCons (fVar 4) aNil)) aNil)))))
def v_law_3 : FnE := (fLst (aCons (fCall F_is_label 1 (aCons (fVar 4) aNil)) (aCons (fCall F_is_name 1 (aCons (fVar 4) aNil)) aNil)))
def b_law_0 : FnS := (fSeq (fSet 5 v_law_3) (fSeq (fIfS c_law_4 (fRet (fC (.bl false))) (fun ρ => some (.nx ρ))) (fSeq (fIfS c_law_3 (fRet (fC (.bl false))) (fun ρ => some (.nx ρ))) (fSeq (fSet 6 v_law_2) (fSeq (fIfS c_law_2 (fRet (fC (.bl false))) (fun ρ => some (.nx ρ))) (fSeq (fSet 6 v_law_1) (fSeq (fIfS c_law_1 (fRet (fC (.bl false))) (fun ρ => some (.nx ρ))) (fSeq (fSet 6 v_law_0) (fIfS c_law_0 (fRet (fC (.bl false))) (fun ρ => some (.nx ρ)))))))))))
def v_law_4 : FnE := (f2 addD (fVar 3) (fLst (aCons (fVar 1) (aCons (fC (.str "")) (aCons (fC (.str ".")) (aCons (fC (.str "a..b")) (aCons (fC (.str "-")) aNil)))))))
def v_law_5 : FnE := (f2 addD (fVar 3) (fLst (aCons (fCall F__law_spoilt 3 (aCons (fVar 0) (aCons (fC (.int 50)) (aCons (fC (.str "a-b9")) aNil)))) (aCons (fCall F__law_spoilt 3 (aCons (fVar 0) (aCons (fC (.int 60)) (aCons (fC (.str "a.b.c.d.e")) aNil)))) aNil))))
def v_law_6 : FnE := (f2 addD (fComp [("_law_script", 0), ("_law_name_here", 1)] (fun ρ => bnd ((aCons (fC (.int 4)) aNil) ρ) rng1) none (fCall F__law_spoilt 3 (aCons (fVar 1) (aCons (f2 addD (fC (.int 10)) (f2 mulD (fC (.int 5)) (fVar 0))) (aCons (fVar 2) aNil))))) (fLst (aCons (fCall F__law_spoilt 3 (aCons (fVar 0) (aCons (fC (.int 40)) (aCons (fC (.str "12345678")) aNil)))) aNil)))
def v_law_7 : FnE := (fCall F__law_name 2 (aCons (fVar 0) (aCons (fC (.int 1)) aNil)))
def v_law_8 : FnE := (fCall F__law_name 2 (aCons (fVar 0) (aCons (fC (.int 0)) aNil)))
def B_law : FnS := (fSeq (fSet 1 v_law_8) (fSeq (fSet 2 v_law_7) (fSeq (fSet 3 v_law_6) (fSeq (fSet 3 v_law_5) (fSeq (fSet 3 v_law_4) (fSeq (fFor 4 [4, 5, 6] (iSeq (f2 addD (fVar 3) (fLst (aCons (fC .non) (aCons (fC (.int 1)) (aCons (fC (.bl true)) (aCons (fTup (aCons (fVar 1) aNil)) (aCons (fLst (aCons (fVar 1) aNil)) (aCons (fC (.str "a.1")) (aCons (fC (.str "1.a")) (aCons (fC (.str "123456789")) (aCons (fC (.str "a.b.c.d.e.f")) aNil)))))))))))) b_law_0) (fRet r_law_0)))))))
def F_law : List Dv → Option (Rs Dv) := runF 7 B_law
set_option maxHeartbeats 4000000 in
theorem fn_law {P : Program} {w : World} {K : PySem.W.Frag} {mg : Str → Option Value} {base : Heap} {f : Addr} {fd : FuncData} (Fn : Fun K "law" "law" s_law f fd) (h__law_is_label : Has P w K mg base "_law_is_label" 1 ["_law_thing"] F__law_is_label) (h__law_is_name : Has P w K mg base "_law_is_name" 2 ["_law_thing"] F__law_is_name) (h__law_name : Has P w K mg base "_law_name" 3 ["_law_script", "_law_at"] F__law_name) (h__law_spoilt : Has P w K mg base "_law_spoilt" 3 ["_law_script", "_law_at", "_law_text"] F__law_spoilt) (h__law_told : Has P w K mg base "_law_told" 6 ["_law_way", "_law_one", "_law_other"] F__law_told) (h_is_label : Has P w K mg base "is_label" 2 ["thing"] F_is_label) (h_is_name : Has P w K mg base "is_name" 3 ["thing"] F_is_name) (h_labels : Has P w K mg base "labels" 5 ["name"] F_labels) (h_within : Has P w K mg base "within" 5 ["one", "other"] F_within) (m_bool : mg "bool" = none) (m_isinstance : mg "isinstance" = none) (m_range : mg "range" = none) (m_tuple : mg "tuple" = none) :
    FnOk P w K mg base CX0 7 f fd ["_law_script"] (spF K F_law 1) :=
  fn_ok2 (k := 6) ["_law_script", "_law_name_here", "_law_other", "_law_things", "_law_thing", "_law_told_here", "_law_due"] ["_law_script"] B_law (by kernel_rfl) (by kernel_rfl) Fn sc_law fun cdv A outer s H E hr => (fss_cons (fs_set 1 sc_law.nd (by kernel_rfl) (.inr (by kernel_rfl)) (fe_callH (k' := 6) 3 ["_law_script", "_law_at"] F__law_name h__law_name hr (by decide) (glb (by kernel_rfl)) (fa_cons (fe_cv 0) (fa_cons fe_int fa_nil)))) (fss_cons (fs_set 2 sc_law.nd (by kernel_rfl) (.inl (by kernel_rfl)) (fe_callH (k' := 6) 3 ["_law_script", "_law_at"] F__law_name h__law_name hr (by decide) (glb (by kernel_rfl)) (fa_cons (fe_cv 0) (fa_cons fe_int fa_nil)))) (fss_cons (fs_set 3 sc_law.nd (by kernel_rfl) (.inl (by kernel_rfl)) (fe_op o_add g_add (fe_comp (defScope s_law) ["_law_script", "_law_name_here", "_law_other", "_law_things", "_law_thing", "_law_told_here", "_law_due"] [("_law_script", 0), ("_law_name_here", 1)] (by kernel_rfl) (by kernel_rfl) ⟨by kernel_rfl, by kernel_rfl, by decide +kernel, by decide +kernel, by kernel_rfl, by decide +kernel, by decide +kernel, by decide +kernel⟩ (by kernel_rfl) rfl (fi_range1 (glb (by kernel_rfl)) m_range (fa_cons fe_int fa_nil)) (fun _ _ _ _ => (fe_callH (k' := 6) 3 ["_law_script", "_law_at", "_law_text"] F__law_spoilt h__law_spoilt hr (by decide) (glb (by kernel_rfl)) (fa_cons (fe_cv 1) (fa_cons (fe_op o_add g_add fe_int (fe_op op_mul g_mul fe_int (fe_lv 0))) (fa_cons (fe_cv 2) fa_nil))))) (fun _ _ _ _ => rfl)) (fe_lst (fa_cons (fe_callH (k' := 6) 3 ["_law_script", "_law_at", "_law_text"] F__law_spoilt h__law_spoilt hr (by decide) (glb (by kernel_rfl)) (fa_cons (fe_cv 0) (fa_cons fe_int (fa_cons fe_str fa_nil)))) fa_nil)))) (fss_cons (fs_set 3 sc_law.nd (by kernel_rfl) (.inl (by kernel_rfl)) (fe_op o_add g_add (fe_lv 3) (fe_lst (fa_cons (fe_callH (k' := 6) 3 ["_law_script", "_law_at", "_law_text"] F__law_spoilt h__law_spoilt hr (by decide) (glb (by kernel_rfl)) (fa_cons (fe_cv 0) (fa_cons fe_int (fa_cons fe_str fa_nil)))) (fa_cons (fe_callH (k' := 6) 3 ["_law_script", "_law_at", "_law_text"] F__law_spoilt h__law_spoilt hr (by decide) (glb (by kernel_rfl)) (fa_cons (fe_cv 0) (fa_cons fe_int (fa_cons fe_str fa_nil)))) fa_nil))))) (fss_cons (fs_set 3 sc_law.nd (by kernel_rfl) (.inl (by kernel_rfl)) (fe_op o_add g_add (fe_lv 3) (fe_lst (fa_cons (fe_cv 1) (fa_cons fe_str (fa_cons fe_str (fa_cons fe_str (fa_cons fe_str fa_nil)))))))) (fss_cons (fs_for 4 [4, 5, 6] PassesOwn.never rfl (fi_seq (fe_op o_add g_add (fe_lv 3) (fe_lst (fa_cons fe_non (fa_cons fe_int (fa_cons fe_bl (fa_cons (fe_tup (fa_cons (fe_cv 1) fa_nil)) (fa_cons (fe_lst (fa_cons (fe_cv 1) fa_nil)) (fa_cons fe_str (fa_cons fe_str (fa_cons fe_str (fa_cons fe_str fa_nil)))))))))))) (pg_name (i := 4) sc_law.nd (by kernel_rfl) (.inl (by kernel_rfl)) (.inl rfl)) (fss_cons (fs_set 5 sc_law.nd (by kernel_rfl) (.inl (by kernel_rfl)) (fe_lst (fa_cons (fe_callH (k' := 6) 2 ["thing"] F_is_label h_is_label hr (by decide) (glb (by kernel_rfl)) (fa_cons (fe_lv 4) fa_nil)) (fa_cons (fe_callH (k' := 6) 3 ["thing"] F_is_name h_is_name hr (by decide) (glb (by kernel_rfl)) (fa_cons (fe_lv 4) fa_nil)) fa_nil)))) (fss_cons (fs_if (ft_cmp (o_neX hr.units) g_neX (fe_lv 5) (fe_lst (fa_cons (fe_callH (k' := 6) 1 ["_law_thing"] F__law_is_label h__law_is_label hr (by decide) (glb (by kernel_rfl)) (fa_cons (fe_lv 4) fa_nil)) (fa_cons (fe_callH (k' := 6) 2 ["_law_thing"] F__law_is_name h__law_is_name hr (by decide) (glb (by kernel_rfl)) (fa_cons (fe_lv 4) fa_nil)) fa_nil))) (nomark _)) (fss_one (fs_ret fe_bl)) fss_nil) (fss_cons (fs_if (ft_cmp (o_neX hr.units) g_neX (fe_comp (defScope s_law) ["_law_script", "_law_name_here", "_law_other", "_law_things", "_law_thing", "_law_told_here", "_law_due"] [] (by kernel_rfl) (by kernel_rfl) ⟨by kernel_rfl, by kernel_rfl, by decide +kernel, by decide +kernel, by kernel_rfl, by decide +kernel, by decide +kernel, by decide +kernel⟩ (by kernel_rfl) rfl (fi_seq (fe_lv 5)) (fun _ _ _ _ => (fe_lv 0)) (fun _ _ _ _ => ⟨_, rfl, (ft_not (ft_val (fe_isi (T := "bool") kit_bool bt_bool (by decide +kernel) (by kernel_rfl) (glb (by kernel_rfl)) m_isinstance (glb (by kernel_rfl)) m_bool (fe_lv 0))))⟩)) (fe_lst fa_nil) (nomark _)) (fss_one (fs_ret fe_bl)) fss_nil) (fss_cons (fs_set 6 sc_law.nd (by kernel_rfl) (.inl (by kernel_rfl)) (fe_if (ft_val (fe_ix (fe_lv 5) fe_int)) (fe_strM PySem.F.slot_str_split PySem.F.type_str_split mt_split g_split (fe_lv 4) (fa_cons fe_str fa_nil)) (fe_tup (fa_cons fe_str (fa_cons fe_int fa_nil))))) (fss_cons (fs_if (ft_cmp (o_neX hr.units) g_neX (fe_callH (k' := 6) 6 ["_law_way", "_law_one", "_law_other"] F__law_told h__law_told hr (by decide) (glb (by kernel_rfl)) (fa_cons fe_int (fa_cons (fe_lv 4) (fa_cons fe_non fa_nil)))) (fe_lv 6) (nomark _)) (fss_one (fs_ret fe_bl)) fss_nil) (fss_cons (fs_set 6 sc_law.nd (by kernel_rfl) (.inl (by kernel_rfl)) (fe_if (ft_val (fe_ix (fe_lv 5) fe_int)) (fe_or (fe_cmp (o_eqX hr.units) g_eqX (fe_cv 1) (fe_lv 4) (nomark _)) (fe_one (fe_strM PySem.F.slot_str_endswith PySem.F.type_str_endswith mt_ew g_strB (fe_cv 1) (fa_cons (fe_op o_add g_add fe_str (fe_lv 4)) fa_nil)))) (fe_tup (fa_cons fe_str (fa_cons fe_int fa_nil))))) (fss_cons (fs_if (ft_cmp (o_neX hr.units) g_neX (fe_callH (k' := 6) 6 ["_law_way", "_law_one", "_law_other"] F__law_told h__law_told hr (by decide) (glb (by kernel_rfl)) (fa_cons fe_int (fa_cons (fe_cv 1) (fa_cons (fe_lv 4) fa_nil)))) (fe_lv 6) (nomark _)) (fss_one (fs_ret fe_bl)) fss_nil) (fss_cons (fs_set 6 sc_law.nd (by kernel_rfl) (.inl (by kernel_rfl)) (fe_if (ft_val (fe_ix (fe_lv 5) fe_int)) (fe_or (fe_cmp (o_eqX hr.units) g_eqX (fe_lv 4) (fe_lv 2) (nomark _)) (fe_one (fe_strM PySem.F.slot_str_endswith PySem.F.type_str_endswith mt_ew g_strB (fe_lv 4) (fa_cons (fe_op o_add g_add fe_str (fe_lv 2)) fa_nil)))) (fe_tup (fa_cons fe_str (fa_cons fe_int fa_nil))))) (fss_one (fs_if (ft_cmp (o_neX hr.units) g_neX (fe_callH (k' := 6) 6 ["_law_way", "_law_one", "_law_other"] F__law_told h__law_told hr (by decide) (glb (by kernel_rfl)) (fa_cons fe_int (fa_cons (fe_lv 4) (fa_cons (fe_lv 2) fa_nil)))) (fe_lv 6) (nomark _)) (fss_one (fs_ret fe_bl)) fss_nil))))))))))) (fss_one (fs_ret (fe_and (fe_callH (k' := 6) 5 ["one", "other"] F_within h_within hr (by decide) (glb (by kernel_rfl)) (fa_cons (fe_cv 1) (fa_cons (fe_cv 1) fa_nil))) (fe_one (fe_not (fe_isi (T := "tuple") kit_tup bt_tuple (by decide +kernel) (by kernel_rfl) (glb (by kernel_rfl)) m_isinstance (glb (by kernel_rfl)) m_tuple (fe_callH (k' := 6) 5 ["name"] F_labels h_labels hr (by decide) (glb (by kernel_rfl)) (fa_cons (fe_cv 1) fa_nil))))))))))))))
theorem all_mk {l : PySem.W.OpenLaw} {w : World} {K : PySem.W.Frag} {h : Heap} {mg : Str → Option Value} {fa : Addr} (X : K.In h) (G : h.Ns mainGlobals mg) (hfa : mg "law" = some (.ref fa))
    {f1 : Addr} {od1 an1 : Option Addr} {sl1 : Array (Option Value)} {oc1 kV1 dc1 pm1 cd1 ct1 : Value}
    {f2 : Addr} {od2 an2 : Option Addr} {sl2 : Array (Option Value)} {oc2 kV2 dc2 pm2 cd2 ct2 : Value}
    {f3 : Addr} {od3 an3 : Option Addr} {sl3 : Array (Option Value)} {oc3 kV3 dc3 pm3 cd3 ct3 : Value}
    {f4 : Addr} {od4 an4 : Option Addr} {sl4 : Array (Option Value)} {oc4 kV4 dc4 pm4 cd4 ct4 : Value}
    {f5 : Addr} {od5 an5 : Option Addr} {sl5 : Array (Option Value)} {oc5 kV5 dc5 pm5 cd5 ct5 : Value}
    {f6 : Addr} {od6 an6 : Option Addr} {sl6 : Array (Option Value)} {oc6 kV6 dc6 pm6 cd6 ct6 : Value}
    {f7 : Addr} {od7 an7 : Option Addr} {sl7 : Array (Option Value)} {oc7 kV7 dc7 pm7 cd7 ct7 : Value}
    {f8 : Addr} {od8 an8 : Option Addr} {sl8 : Array (Option Value)} {oc8 kV8 dc8 pm8 cd8 ct8 : Value}
    {f9 : Addr} {od9 an9 : Option Addr} {sl9 : Array (Option Value)} {oc9 kV9 dc9 pm9 cd9 ct9 : Value}
    {f10 : Addr} {od10 an10 : Option Addr} {sl10 : Array (Option Value)} {oc10 kV10 dc10 pm10 cd10 ct10 : Value}
    {f11 : Addr} {od11 an11 : Option Addr} {sl11 : Array (Option Value)} {oc11 kV11 dc11 pm11 cd11 ct11 : Value}
    {f12 : Addr} {od12 an12 : Option Addr} {sl12 : Array (Option Value)} {oc12 kV12 dc12 pm12 cd12 ct12 : Value}
    {f13 : Addr} {od13 an13 : Option Addr} {sl13 : Array (Option Value)} {oc13 kV13 dc13 pm13 cd13 ct13 : Value}
    {f14 : Addr} {od14 an14 : Option Addr} {sl14 : Array (Option Value)} {oc14 kV14 dc14 pm14 cd14 ct14 : Value}
    {f15 : Addr} {od15 an15 : Option Addr} {sl15 : Array (Option Value)} {oc15 kV15 dc15 pm15 cd15 ct15 : Value}
    {f16 : Addr} {od16 an16 : Option Addr} {sl16 : Array (Option Value)} {oc16 kV16 dc16 pm16 cd16 ct16 : Value}
    {tk1 : Tok}
    {tk2 : Tok}
    {tk3 : Tok}
    {tk4 : Tok}
    {C0 C1 C2 C3 C4 C5 C6 CJ : Addr}
    (a1 : PySem.W.nsIn K mainGlobals "_law_is_label" = some (some (.ref f1))) (l1 : K.lookup f1 = some ⟨oc1, od1, .func (PySem.W.fnOf "_law_is_label" "_law_is_label" (defArgs s__law_is_label) (defBody s__law_is_label) (defScope s__law_is_label) .none kV1 dc1 pm1 an1 cd1 ct1), sl1⟩) (c1 : PySem.W.codeIn K cd1 "_law_is_label" = true) (k1 : PySem.W.keepIn K (.ref f1) = true)
    (a2 : PySem.W.nsIn K mainGlobals "_law_is_name" = some (some (.ref f2))) (l2 : K.lookup f2 = some ⟨oc2, od2, .func (PySem.W.fnOf "_law_is_name" "_law_is_name" (defArgs s__law_is_name) (defBody s__law_is_name) (defScope s__law_is_name) .none kV2 dc2 pm2 an2 cd2 ct2), sl2⟩) (c2 : PySem.W.codeIn K cd2 "_law_is_name" = true) (k2 : PySem.W.keepIn K (.ref f2) = true)
    (a3 : PySem.W.nsIn K mainGlobals "_law_cell" = some (some (.ref f3))) (l3 : K.lookup f3 = some ⟨oc3, od3, .func (PySem.W.fnOf "_law_cell" "_law_cell" (defArgs s__law_cell) (defBody s__law_cell) (defScope s__law_cell) .none kV3 dc3 pm3 an3 cd3 ct3), sl3⟩) (c3 : PySem.W.codeIn K cd3 "_law_cell" = true) (k3 : PySem.W.keepIn K (.ref f3) = true)
    (a4 : PySem.W.nsIn K mainGlobals "_law_drawn" = some (some (.ref f4))) (l4 : K.lookup f4 = some ⟨oc4, od4, .func (PySem.W.fnOf "_law_drawn" "_law_drawn" (defArgs s__law_drawn) (defBody s__law_drawn) (defScope s__law_drawn) .none kV4 dc4 pm4 an4 cd4 ct4), sl4⟩) (c4 : PySem.W.codeIn K cd4 "_law_drawn" = true) (k4 : PySem.W.keepIn K (.ref f4) = true)
    (a5 : PySem.W.nsIn K mainGlobals "_law_name" = some (some (.ref f5))) (l5 : K.lookup f5 = some ⟨oc5, od5, .func (PySem.W.fnOf "_law_name" "_law_name" (defArgs s__law_name) (defBody s__law_name) (defScope s__law_name) .none kV5 dc5 pm5 an5 cd5 ct5), sl5⟩) (c5 : PySem.W.codeIn K cd5 "_law_name" = true) (k5 : PySem.W.keepIn K (.ref f5) = true)
    (a6 : PySem.W.nsIn K mainGlobals "_law_spoilt" = some (some (.ref f6))) (l6 : K.lookup f6 = some ⟨oc6, od6, .func (PySem.W.fnOf "_law_spoilt" "_law_spoilt" (defArgs s__law_spoilt) (defBody s__law_spoilt) (defScope s__law_spoilt) .none kV6 dc6 pm6 an6 cd6 ct6), sl6⟩) (c6 : PySem.W.codeIn K cd6 "_law_spoilt" = true) (k6 : PySem.W.keepIn K (.ref f6) = true)
    (a7 : PySem.W.nsIn K mainGlobals "_law_refused" = some (some (.ref f7))) (l7 : K.lookup f7 = some ⟨oc7, od7, .func (PySem.W.fnOf "_law_refused" "_law_refused" (defArgs s__law_refused) (defBody s__law_refused) (defScope s__law_refused) .none kV7 dc7 pm7 an7 cd7 ct7), sl7⟩) (c7 : PySem.W.codeIn K cd7 "_law_refused" = true) (k7 : PySem.W.keepIn K (.ref f7) = true)
    (a8 : PySem.W.nsIn K mainGlobals "is_text_of" = some (some (.ref f8))) (l8 : K.lookup f8 = some ⟨oc8, od8, .func (PySem.W.fnOf "is_text_of" "is_text_of" (defArgs s_is_text_of) (defBody s_is_text_of) (defScope s_is_text_of) .none kV8 dc8 pm8 an8 cd8 ct8), sl8⟩) (c8 : PySem.W.codeIn K cd8 "is_text_of" = true) (k8 : PySem.W.keepIn K (.ref f8) = true)
    (a9 : PySem.W.nsIn K mainGlobals "is_label" = some (some (.ref f9))) (l9 : K.lookup f9 = some ⟨oc9, od9, .func (PySem.W.fnOf "is_label" "is_label" (defArgs s_is_label) (defBody s_is_label) (defScope s_is_label) .none kV9 dc9 pm9 an9 cd9 ct9), sl9⟩) (c9 : PySem.W.codeIn K cd9 "is_label" = true) (k9 : PySem.W.keepIn K (.ref f9) = true)
    (a10 : PySem.W.nsIn K mainGlobals "is_name" = some (some (.ref f10))) (l10 : K.lookup f10 = some ⟨oc10, od10, .func (PySem.W.fnOf "is_name" "is_name" (defArgs s_is_name) (defBody s_is_name) (defScope s_is_name) .none kV10 dc10 pm10 an10 cd10 ct10), sl10⟩) (c10 : PySem.W.codeIn K cd10 "is_name" = true) (k10 : PySem.W.keepIn K (.ref f10) = true)
    (a11 : PySem.W.nsIn K mainGlobals "need_name" = some (some (.ref f11))) (l11 : K.lookup f11 = some ⟨oc11, od11, .func (PySem.W.fnOf "need_name" "need_name" (defArgs s_need_name) (defBody s_need_name) (defScope s_need_name) .none kV11 dc11 pm11 an11 cd11 ct11), sl11⟩) (c11 : PySem.W.codeIn K cd11 "need_name" = true) (k11 : PySem.W.keepIn K (.ref f11) = true)
    (a12 : PySem.W.nsIn K mainGlobals "labels" = some (some (.ref f12))) (l12 : K.lookup f12 = some ⟨oc12, od12, .func (PySem.W.fnOf "labels" "labels" (defArgs s_labels) (defBody s_labels) (defScope s_labels) .none kV12 dc12 pm12 an12 cd12 ct12), sl12⟩) (c12 : PySem.W.codeIn K cd12 "labels" = true) (k12 : PySem.W.keepIn K (.ref f12) = true)
    (a13 : PySem.W.nsIn K mainGlobals "lies_within" = some (some (.ref f13))) (l13 : K.lookup f13 = some ⟨oc13, od13, .func (PySem.W.fnOf "lies_within" "lies_within" (defArgs s_lies_within) (defBody s_lies_within) (defScope s_lies_within) .none kV13 dc13 pm13 an13 cd13 ct13), sl13⟩) (c13 : PySem.W.codeIn K cd13 "lies_within" = true) (k13 : PySem.W.keepIn K (.ref f13) = true)
    (a14 : PySem.W.nsIn K mainGlobals "within" = some (some (.ref f14))) (l14 : K.lookup f14 = some ⟨oc14, od14, .func (PySem.W.fnOf "within" "within" (defArgs s_within) (defBody s_within) (defScope s_within) .none kV14 dc14 pm14 an14 cd14 ct14), sl14⟩) (c14 : PySem.W.codeIn K cd14 "within" = true) (k14 : PySem.W.keepIn K (.ref f14) = true)
    (a15 : PySem.W.nsIn K mainGlobals "_law_told" = some (some (.ref f15))) (l15 : K.lookup f15 = some ⟨oc15, od15, .func (PySem.W.fnOf "_law_told" "_law_told" (defArgs s__law_told) (defBody s__law_told) (defScope s__law_told) .none kV15 dc15 pm15 an15 cd15 ct15), sl15⟩) (c15 : PySem.W.codeIn K cd15 "_law_told" = true) (k15 : PySem.W.keepIn K (.ref f15) = true)
    (a16 : PySem.W.nsIn K mainGlobals "law" = some (some (.ref f16))) (l16 : K.lookup f16 = some ⟨oc16, od16, .func (PySem.W.fnOf "law" "law" (defArgs s_law) (defBody s_law) (defScope s_law) .none kV16 dc16 pm16 an16 cd16 ct16), sl16⟩) (c16 : PySem.W.codeIn K cd16 "law" = true) (k16 : PySem.W.keepIn K (.ref f16) = true)
    (z1 : PySem.W.nsIn K mainGlobals "ValueError" = some none)
    (z2 : PySem.W.nsIn K mainGlobals "all" = some none)
    (z3 : PySem.W.nsIn K mainGlobals "bool" = some none)
    (z4 : PySem.W.nsIn K mainGlobals "isinstance" = some none)
    (z5 : PySem.W.nsIn K mainGlobals "len" = some none)
    (z6 : PySem.W.nsIn K mainGlobals "range" = some none)
    (z7 : PySem.W.nsIn K mainGlobals "str" = some none)
    (z8 : PySem.W.nsIn K mainGlobals "tuple" = some none)
    (g1 : PySem.W.nsIn K mainGlobals "FIGURES" = some (some (.str (Str.ofString "0123456789") tk1)))
    (g2 : PySem.W.nsIn K mainGlobals "LABEL_SIGNS" = some (some (.str (Str.ofString "abcdefghijklmnopqrstuvwxyz0123456789-") tk2)))
    (g3 : PySem.W.nsIn K mainGlobals "LONGEST_LABEL" = some (some (.int 8 tk3)))
    (g4 : PySem.W.nsIn K mainGlobals "MOST_LABELS" = some (some (.int 5 tk4)))
    (n0 : PySem.W.nsIn K mainGlobals "NoName" = some (some (.ref C0)))
    (n1 : PySem.W.nsIn K mainGlobals "NoTable" = some (some (.ref C1)))
    (n2 : PySem.W.nsIn K mainGlobals "NoPath" = some (some (.ref C2)))
    (n3 : PySem.W.nsIn K mainGlobals "NoAsk" = some (some (.ref C3)))
    (n4 : PySem.W.nsIn K mainGlobals "NoNote" = some (some (.ref C4)))
    (n5 : PySem.W.nsIn K mainGlobals "NoJar" = some (some (.ref C5)))
    (n6 : PySem.W.nsIn K mainGlobals "NoNumber" = some (some (.ref C6)))
    (nJ : PySem.W.nsIn K mainGlobals "JarError" = some (some (.ref CJ)))
    (xb : clsB K [C0, C1, C2, C3, C4, C5, C6] CJ = true) :
    ∃ fd : FuncData, (∀ (s : Shared) (v : Value), BindsTo s fd ⟨[v], []⟩ [("_law_script", v)]) ∧ ∀ base : Heap, K.In base → base.Ns mainGlobals mg → FnOk l.prog w K mg base CX0 7 fa fd ["_law_script"] (spF K F_law 1) := by
  have e := hfa.symm.trans (PySem.W.mg_of X G a16)
  cases e
  have F1 := fun_mk (st := s__law_is_label) l1 c1 k1
  have F2 := fun_mk (st := s__law_is_name) l2 c2 k2
  have F3 := fun_mk (st := s__law_cell) l3 c3 k3
  have F4 := fun_mk (st := s__law_drawn) l4 c4 k4
  have F5 := fun_mk (st := s__law_name) l5 c5 k5
  have F6 := fun_mk (st := s__law_spoilt) l6 c6 k6
  have F7 := fun_mk (st := s__law_refused) l7 c7 k7
  have F8 := fun_mk (st := s_is_text_of) l8 c8 k8
  have F9 := fun_mk (st := s_is_label) l9 c9 k9
  have F10 := fun_mk (st := s_is_name) l10 c10 k10
  have F11 := fun_mk (st := s_need_name) l11 c11 k11
  have F12 := fun_mk (st := s_labels) l12 c12 k12
  have F13 := fun_mk (st := s_lies_within) l13 c13 k13
  have F14 := fun_mk (st := s_within) l14 c14 k14
  have F15 := fun_mk (st := s__law_told) l15 c15 k15
  have F16 := fun_mk (st := s_law) l16 c16 k16
  have m_ValueError := PySem.W.mg_none_of X G z1
  have m_all := PySem.W.mg_none_of X G z2
  have m_bool := PySem.W.mg_none_of X G z3
  have m_isinstance := PySem.W.mg_none_of X G z4
  have m_len := PySem.W.mg_none_of X G z5
  have m_range := PySem.W.mg_none_of X G z6
  have m_str := PySem.W.mg_none_of X G z7
  have m_tuple := PySem.W.mg_none_of X G z8
  have m_FIGURES := PySem.W.mg_of X G g1
  have m_LABEL_SIGNS := PySem.W.mg_of X G g2
  have m_LONGEST_LABEL := PySem.W.mg_of X G g3
  have m_MOST_LABELS := PySem.W.mg_of X G g4
  have xa : XAll K 7 (fun c => [C0, C1, C2, C3, C4, C5, C6].getD c 0) CJ := xall_of rfl (fun c hc => match c, hc with | 0, _ => n0 | 1, _ => n1 | 2, _ => n2 | 3, _ => n3 | 4, _ => n4 | 5, _ => n5 | 6, _ => n6) xb
  have m_NoName := PySem.W.mg_of X G n0
  have m_NoTable := PySem.W.mg_of X G n1
  have m_NoPath := PySem.W.mg_of X G n2
  have m_NoAsk := PySem.W.mg_of X G n3
  have m_NoNote := PySem.W.mg_of X G n4
  have m_NoJar := PySem.W.mg_of X G n5
  have m_NoNumber := PySem.W.mg_of X G n6
  have m_JarError := PySem.W.mg_of X G nJ
  refine ⟨PySem.W.fnOf "law" "law" (defArgs s_law) (defBody s_law) (defScope s_law) .none kV16 dc16 pm16 an16 cd16 ct16, fun s v => .of_eq rfl, fun base _ _ => ?_⟩
  have h__law_is_label : Has l.prog w K mg base "_law_is_label" 1 ["_law_thing"] F__law_is_label := ⟨_, _, fn__law_is_label F1 m_isinstance m_len m_str, PySem.W.mg_of X G a1, k1, bd__law_is_label F1⟩
  have h__law_is_name : Has l.prog w K mg base "_law_is_name" 2 ["_law_thing"] F__law_is_name := ⟨_, _, fn__law_is_name F2 h__law_is_label m_isinstance m_len m_str, PySem.W.mg_of X G a2, k2, bd__law_is_name F2⟩
  have h__law_cell : Has l.prog w K mg base "_law_cell" 1 ["_law_script", "_law_k"] F__law_cell := ⟨_, _, fn__law_cell F3 m_len, PySem.W.mg_of X G a3, k3, bd__law_cell F3⟩
  have h__law_drawn : Has l.prog w K mg base "_law_drawn" 2 ["_law_script", "_law_k", "_law_many"] F__law_drawn := ⟨_, _, fn__law_drawn F4 h__law_cell, PySem.W.mg_of X G a4, k4, bd__law_drawn F4⟩
  have h__law_name : Has l.prog w K mg base "_law_name" 3 ["_law_script", "_law_at"] F__law_name := ⟨_, _, fn__law_name F5 h__law_drawn m_len, PySem.W.mg_of X G a5, k5, bd__law_name F5⟩
  have h__law_spoilt : Has l.prog w K mg base "_law_spoilt" 3 ["_law_script", "_law_at", "_law_text"] F__law_spoilt := ⟨_, _, fn__law_spoilt F6 h__law_drawn m_len, PySem.W.mg_of X G a6, k6, bd__law_spoilt F6⟩
  have hm__law_refused : HasM l.prog w K mg base "_law_refused" 1 ["_law_e"] FM__law_refused := ⟨_, _, fm__law_refused F7 m_ValueError m_isinstance xa m_NoAsk m_NoJar m_NoName m_NoNote m_NoNumber m_NoPath m_NoTable, PySem.W.mg_of X G a7, k7, bd__law_refused F7⟩
  have h_is_text_of : Has l.prog w K mg base "is_text_of" 1 ["thing", "signs", "least", "most"] F_is_text_of := ⟨_, _, fn_is_text_of F8 m_all m_isinstance m_len m_str, PySem.W.mg_of X G a8, k8, bd_is_text_of F8⟩
  have h_is_label : Has l.prog w K mg base "is_label" 2 ["thing"] F_is_label := ⟨_, _, fn_is_label F9 h_is_text_of m_LABEL_SIGNS m_LONGEST_LABEL, PySem.W.mg_of X G a9, k9, bd_is_label F9⟩
  have h_is_name : Has l.prog w K mg base "is_name" 3 ["thing"] F_is_name := ⟨_, _, fn_is_name F10 h_is_label h_is_text_of m_all m_isinstance m_len m_str m_FIGURES m_LONGEST_LABEL m_MOST_LABELS, PySem.W.mg_of X G a10, k10, bd_is_name F10⟩
  have hx_need_name : HasE l.prog w K mg base "need_name" 4 ["thing"] FX_need_name := ⟨_, _, fx_need_name F11 h_is_name xa m_NoName, PySem.W.mg_of X G a11, k11, bd_need_name F11⟩
  have hx_labels : HasE l.prog w K mg base "labels" 5 ["name"] FX_labels := ⟨_, _, fx_labels F12 hx_need_name, PySem.W.mg_of X G a12, k12, bd_labels F12⟩
  have h_lies_within : Has l.prog w K mg base "lies_within" 1 ["one", "other"] F_lies_within := ⟨_, _, fn_lies_within F13, PySem.W.mg_of X G a13, k13, bd_lies_within F13⟩
  have hx_within : HasE l.prog w K mg base "within" 5 ["one", "other"] FX_within := ⟨_, _, fx_within F14 h_lies_within hx_need_name, PySem.W.mg_of X G a14, k14, bd_within F14⟩
  have h__law_told : Has l.prog w K mg base "_law_told" 6 ["_law_way", "_law_one", "_law_other"] F__law_told := ⟨_, _, fn__law_told F15 hm__law_refused hx_labels hx_within xa m_JarError, PySem.W.mg_of X G a15, k15, bd__law_told F15⟩
  have h_need_name : Has l.prog w K mg base "need_name" 4 ["thing"] F_need_name := ⟨_, _, fn_need_name F11 h_is_name, PySem.W.mg_of X G a11, k11, bd_need_name F11⟩
  have h_labels : Has l.prog w K mg base "labels" 5 ["name"] F_labels := ⟨_, _, fn_labels F12 h_need_name, PySem.W.mg_of X G a12, k12, bd_labels F12⟩
  have h_within : Has l.prog w K mg base "within" 5 ["one", "other"] F_within := ⟨_, _, fn_within F14 h_lies_within h_need_name, PySem.W.mg_of X G a14, k14, bd_within F14⟩
  exact fn_law F16 h__law_is_label h__law_is_name h__law_name h__law_spoilt h__law_told h_is_label h_is_name h_labels h_within m_bool m_isinstance m_range m_tuple
end G
set_option maxHeartbeats 4000000
namespace G
open PySem PySem.Spec PyProof.Rows L2 FD
theorem cell_ok (ns : List Int) (hl : ns.length ≤ 63) (k : Int) : ∃ c, F__law_cell [.scr ns, .int k] = some (.ok (.int c)) := by
  cases ns with
  | nil => exact ⟨7 * k, by kernel_rfl⟩
  | cons n r =>
    have h0 : 0 < (n :: r).length := by simp
    have h1 : (0 : Int) < ((n :: r).length : Int) := by omega
    have h2 : ((n :: r).length : Int) < 1073741824 := by omega
    have h3 : 0 ≤ k % ((n :: r).length : Int) := Int.emod_nonneg _ (by omega)
    have h4 : k % ((n :: r).length : Int) < ((n :: r).length : Int) := Int.emod_lt_of_pos _ h1
    have h5 : (k % ((n :: r).length : Int)).toNat < (n :: r).length := by omega
    refine ⟨(n :: r)[(k % ((n :: r).length : Int)).toNat] + 6553 * (k / ((n :: r).length : Int)), ?_⟩
    have hat : atD (n :: r) (k % ((n :: r).length : Int)) = some (n :: r)[(k % ((n :: r).length : Int)).toNat] := by
      unfold atD
      rw [if_pos h3, List.getElem?_eq_getElem h5]
    have hm : modD (.int k) (.int ((n :: r).length : Int)) = some (.ok (.int (k % ((n :: r).length : Int)))) := by
      show (if 0 < ((n :: r).length : Int) then _ else _) = _
      rw [if_pos h1]
    have hd : fdivD (.int k) (.int ((n :: r).length : Int)) = some (.ok (.int (k / ((n :: r).length : Int)))) := by
      show (if 0 < ((n :: r).length : Int) ∧ ((n :: r).length : Int) < 1073741824 then _ else _) = _
      rw [if_pos ⟨h1, h2⟩]
    have hi : ixD (.scr (n :: r)) (.int (k % ((n :: r).length : Int))) = some (.ok (.int (n :: r)[(k % ((n :: r).length : Int)).toNat])) := by
      show (match atD (n :: r) (k % ((n :: r).length : Int)) with | some d => _ | none => _) = _
      rw [hat]
    show (match B__law_cell [some (.scr (n :: r)), some (.int k)] with | some (.nx _) => _ | some (.rt d) => _ | _ => _) = _
    have e : B__law_cell [some (.scr (n :: r)), some (.int k)] = bndS (bnd (bnd (modD (.int k) (.int ((n :: r).length : Int))) fun i => ixD (.scr (n :: r)) i) fun x => bnd (bnd (fdivD (.int k) (.int ((n :: r).length : Int))) fun q => mulD (.int 6553) q) fun y => addD x y) fun d => some (.rt d) := by kernel_rfl
    rw [e, hm, hd]
    show (match bndS (bnd (ixD (.scr (n :: r)) (.int (k % ((n :: r).length : Int)))) fun x => _) _ with | some (.nx _) => _ | some (.rt d) => _ | _ => _) = _
    rw [hi]
    kernel_rfl
def dr1 (c k : Int) : Int := (c % 2147483563 * 69069 + 104723 * (k + 1)) % 2147483563
def dr2 (c : Int) : Int := (c * c + c / 3) % 2147483399
def dr3 (c m : Int) : Int := (c * c + c / 7) % 2147483647 / 11 % m
theorem mul_ok {i j : Int} (h : (-18446744073709551616 < i ∧ i < 18446744073709551616) ∨ (-18446744073709551616 < j ∧ j < 18446744073709551616)) : mulD (.int i) (.int j) = some (.ok (.int (i * j))) := by
  show (if _ then _ else _) = _
  rw [if_pos h]
theorem mod_ok {i j : Int} (h : 0 < j) : modD (.int i) (.int j) = some (.ok (.int (i % j))) := by
  show (if _ then _ else _) = _
  rw [if_pos h]
theorem drawn_ok (ns : List Int) (hl : ns.length ≤ 63) (k m : Int) (hm : 0 < m) : ∃ d : Int, 0 ≤ d ∧ d < m ∧ F__law_drawn [.scr ns, .int k, .int m] = some (.ok (.int d)) := by
  obtain ⟨c, hc⟩ := cell_ok ns hl k
  refine ⟨dr3 (dr2 (dr1 c k)) m, Int.emod_nonneg _ (by omega), Int.emod_lt_of_pos _ hm, ?_⟩
  have b1 : 0 ≤ dr1 c k ∧ dr1 c k < 2147483563 := ⟨Int.emod_nonneg _ (by omega), Int.emod_lt_of_pos _ (by omega)⟩
  have b2 : 0 ≤ dr2 (dr1 c k) ∧ dr2 (dr1 c k) < 2147483399 := ⟨Int.emod_nonneg _ (by omega), Int.emod_lt_of_pos _ (by omega)⟩
  have b0 : 0 ≤ c % 2147483563 ∧ c % 2147483563 < 2147483563 := ⟨Int.emod_nonneg _ (by omega), Int.emod_lt_of_pos _ (by omega)⟩
  show runF 4 B__law_drawn [.scr ns, .int k, .int m] = _
  have s1 : (fCall F__law_cell 2 (aCons (fVar 0) (aCons (fVar 1) aNil))) [some (.scr ns), some (.int k), some (.int m), none] = some (.ok (.int c)) := by
    show (match F__law_cell [.scr ns, .int k] with | some (.ok d) => (some (.ok d) : Option (Rs Dv)) | _ => none) = _
    rw [hc]
  have e1 : (fSet 3 (f2 modD (f2 addD (f2 mulD (f2 modD (fCall F__law_cell 2 (aCons (fVar 0) (aCons (fVar 1) aNil))) (fC (.int 2147483563))) (fC (.int 69069))) (f2 mulD (fC (.int 104723)) (f2 addD (fVar 1) (fC (.int 1))))) (fC (.int 2147483563)))) [some (.scr ns), some (.int k), some (.int m), none] = some (.nx [some (.scr ns), some (.int k), some (.int m), some (.int (dr1 c k))]) := by
    show bndS (bnd (bnd (bnd (bnd ((fCall F__law_cell 2 (aCons (fVar 0) (aCons (fVar 1) aNil))) [some (.scr ns), some (.int k), some (.int m), none]) fun x => modD x (.int 2147483563)) fun x => mulD x (.int 69069)) fun x => bnd (mulD (.int 104723) (.int (k + 1))) fun y => addD x y) fun x => modD x (.int 2147483563)) (fun d => some (.nx [some (.scr ns), some (.int k), some (.int m), some d])) = _
    rw [s1]
    show bndS (bnd (bnd (bnd (modD (.int c) (.int 2147483563)) fun x => mulD x (.int 69069)) fun x => bnd (mulD (.int 104723) (.int (k + 1))) fun y => addD x y) fun x => modD x (.int 2147483563)) _ = _
    rw [mod_ok (by omega), mul_ok (i := 104723) (.inl (by omega))]
    show bndS (bnd (bnd (mulD (.int (c % 2147483563)) (.int 69069)) fun x => addD x (.int (104723 * (k + 1)))) fun x => modD x (.int 2147483563)) _ = _
    rw [mul_ok (.inl (by omega))]
    show bndS (modD (.int (c % 2147483563 * 69069 + 104723 * (k + 1))) (.int 2147483563)) _ = _
    rw [mod_ok (by omega)]
    rfl
  generalize hd1 : dr1 c k = d1 at *
  have e2 : (fSet 3 (f2 modD (f2 addD (f2 mulD (fVar 3) (fVar 3)) (f2 fdivD (fVar 3) (fC (.int 3)))) (fC (.int 2147483399)))) [some (.scr ns), some (.int k), some (.int m), some (.int d1)] = some (.nx [some (.scr ns), some (.int k), some (.int m), some (.int (dr2 d1))]) := by
    show bndS (bnd (bnd (mulD (.int d1) (.int d1)) fun x => addD x (.int (d1 / 3))) fun x => modD x (.int 2147483399)) (fun d => some (.nx [some (.scr ns), some (.int k), some (.int m), some d])) = _
    rw [mul_ok (.inl (by omega))]
    show bndS (modD (.int (d1 * d1 + d1 / 3)) (.int 2147483399)) _ = _
    rw [mod_ok (by omega)]
    rfl
  generalize hd2 : dr2 d1 = d2 at *
  have e3 : (fRet (f2 modD (f2 fdivD (f2 modD (f2 addD (f2 mulD (fVar 3) (fVar 3)) (f2 fdivD (fVar 3) (fC (.int 7)))) (fC (.int 2147483647))) (fC (.int 11))) (fVar 2))) [some (.scr ns), some (.int k), some (.int m), some (.int d2)] = some (.rt (.int (dr3 d2 m))) := by
    show bndS (bnd (bnd (bnd (bnd (mulD (.int d2) (.int d2)) fun x => addD x (.int (d2 / 7))) fun x => modD x (.int 2147483647)) fun x => fdivD x (.int 11)) fun x => modD x (.int m)) (fun d => some (.rt d)) = _
    rw [mul_ok (.inl (by omega))]
    show bndS (bnd (bnd (modD (.int (d2 * d2 + d2 / 7)) (.int 2147483647)) fun x => fdivD x (.int 11)) fun x => modD x (.int m)) _ = _
    rw [mod_ok (by omega)]
    show bndS (modD (.int ((d2 * d2 + d2 / 7) % 2147483647 / 11)) (.int m)) _ = _
    rw [mod_ok hm]
    rfl
  show (match B__law_drawn [some (.scr ns), some (.int k), some (.int m), none] with | some (.nx _) => _ | some (.rt d) => _ | _ => _) = _
  have e : B__law_drawn [some (.scr ns), some (.int k), some (.int m), none] = some (.rt (.int (dr3 d2 m))) := by
    show sq ((fSet 3 _) _) (fun ρ => sq ((fSet 3 _) ρ) _) = _
    rw [e1]
    show sq ((fSet 3 _) [some (.scr ns), some (.int k), some (.int m), some (.int d1)]) _ = _
    rw [e2]
    exact e3
  rw [e]

def menu : List Str := [Str.ofString "a.b", Str.ofString "b", Str.ofString "x.a.b", Str.ofString "y.x.a.b", Str.ofString "c.uk", Str.ofString "uk", Str.ofString "d.c.uk", Str.ofString "e.d.c.uk", Str.ofString "w.ck", Str.ofString "v.w.ck", Str.ofString "ck", Str.ofString "g-1.a.b", Str.ofString "7.b", Str.ofString "p.q"]
def okO (o : Option (Rs Dv)) : Option (Rs Dv) := match o with
  | some (.ok d) => some (.ok d)
  | _ => none
theorem name_ok (ns : List Int) (hl : ns.length ≤ 63) (k : Int) : ∃ p ∈ menu, F__law_name [.scr ns, .int k] = some (.ok (.str p)) := by
  obtain ⟨d, h0, h1, hd⟩ := drawn_ok ns hl k 14 (by omega)
  have e : F__law_name [.scr ns, .int k] = (match bndS (bnd (match F__law_drawn [.scr ns, .int k, .int 14] with | some (.ok d) => (some (.ok d) : Option (Rs Dv)) | _ => none) fun i => ixD (.lst (menu.map Dv.str)) i) fun d => some (.rt d) with
    | some (.nx _) => some (.ok .non)
    | some (.rt d) => some (.ok d)
    | _ => none) := by kernel_rfl
  rw [e, hd]
  have hc : d = 0 ∨ d = 1 ∨ d = 2 ∨ d = 3 ∨ d = 4 ∨ d = 5 ∨ d = 6 ∨ d = 7 ∨ d = 8 ∨ d = 9 ∨ d = 10 ∨ d = 11 ∨ d = 12 ∨ d = 13 := by omega
  rcases hc with rfl | rfl | rfl | rfl | rfl | rfl | rfl | rfl | rfl | rfl | rfl | rfl | rfl | rfl
  · exact ⟨Str.ofString "a.b", by simp [menu], by kernel_rfl⟩
  · exact ⟨Str.ofString "b", by simp [menu], by kernel_rfl⟩
  · exact ⟨Str.ofString "x.a.b", by simp [menu], by kernel_rfl⟩
  · exact ⟨Str.ofString "y.x.a.b", by simp [menu], by kernel_rfl⟩
  · exact ⟨Str.ofString "c.uk", by simp [menu], by kernel_rfl⟩
  · exact ⟨Str.ofString "uk", by simp [menu], by kernel_rfl⟩
  · exact ⟨Str.ofString "d.c.uk", by simp [menu], by kernel_rfl⟩
  · exact ⟨Str.ofString "e.d.c.uk", by simp [menu], by kernel_rfl⟩
  · exact ⟨Str.ofString "w.ck", by simp [menu], by kernel_rfl⟩
  · exact ⟨Str.ofString "v.w.ck", by simp [menu], by kernel_rfl⟩
  · exact ⟨Str.ofString "ck", by simp [menu], by kernel_rfl⟩
  · exact ⟨Str.ofString "g-1.a.b", by simp [menu], by kernel_rfl⟩
  · exact ⟨Str.ofString "7.b", by simp [menu], by kernel_rfl⟩
  · exact ⟨Str.ofString "p.q", by simp [menu], by kernel_rfl⟩
def sgs : List Str := [Str.ofString "a", Str.ofString "z", Str.ofString "0", Str.ofString "9", Str.ofString "-", Str.ofString ".", Str.ofString "_", Str.ofString "A", Str.ofString " ", Str.ofString "/", Str.ofString "*", Str.ofString "!"]
theorem sign_ok {d : Int} (h0 : 0 ≤ d) (h1 : d < 12) : ∃ g ∈ sgs, ixD (.str (Str.ofString "az09-._A /*!")) (.int d) = some (.ok (.str g)) := by
  have hc : d = 0 ∨ d = 1 ∨ d = 2 ∨ d = 3 ∨ d = 4 ∨ d = 5 ∨ d = 6 ∨ d = 7 ∨ d = 8 ∨ d = 9 ∨ d = 10 ∨ d = 11 := by omega
  rcases hc with rfl | rfl | rfl | rfl | rfl | rfl | rfl | rfl | rfl | rfl | rfl | rfl
  · exact ⟨Str.ofString "a", by simp [sgs], by kernel_rfl⟩
  · exact ⟨Str.ofString "z", by simp [sgs], by kernel_rfl⟩
  · exact ⟨Str.ofString "0", by simp [sgs], by kernel_rfl⟩
  · exact ⟨Str.ofString "9", by simp [sgs], by kernel_rfl⟩
  · exact ⟨Str.ofString "-", by simp [sgs], by kernel_rfl⟩
  · exact ⟨Str.ofString ".", by simp [sgs], by kernel_rfl⟩
  · exact ⟨Str.ofString "_", by simp [sgs], by kernel_rfl⟩
  · exact ⟨Str.ofString "A", by simp [sgs], by kernel_rfl⟩
  · exact ⟨Str.ofString " ", by simp [sgs], by kernel_rfl⟩
  · exact ⟨Str.ofString "/", by simp [sgs], by kernel_rfl⟩
  · exact ⟨Str.ofString "*", by simp [sgs], by kernel_rfl⟩
  · exact ⟨Str.ofString "!", by simp [sgs], by kernel_rfl⟩
end G
namespace G
open PySem PySem.Spec PyProof.Rows L2 FD
/-- a text, and what it may be spoilt to -/
def tab0 : Str × List Str := (Str.ofString "a.b", [Str.ofString "aa.b", Str.ofString "a.b", Str.ofString ".b", Str.ofString "a.ba.b", Str.ofString "za.b", Str.ofString "z.b", Str.ofString "0a.b", Str.ofString "0.b", Str.ofString "9a.b", Str.ofString "9.b", Str.ofString "-a.b", Str.ofString "-.b", Str.ofString ".a.b", Str.ofString "..b", Str.ofString "_a.b", Str.ofString "_.b", Str.ofString "Aa.b", Str.ofString "A.b", Str.ofString " a.b", Str.ofString " .b", Str.ofString "/a.b", Str.ofString "/.b", Str.ofString "*a.b", Str.ofString "*.b", Str.ofString "!a.b", Str.ofString "!.b", Str.ofString "aab", Str.ofString "ab", Str.ofString "a..b", Str.ofString "az.b", Str.ofString "azb", Str.ofString "a0.b", Str.ofString "a0b", Str.ofString "a9.b", Str.ofString "a9b", Str.ofString "a-.b", Str.ofString "a-b", Str.ofString "a_.b", Str.ofString "a_b", Str.ofString "aA.b", Str.ofString "aAb", Str.ofString "a .b", Str.ofString "a b", Str.ofString "a/.b", Str.ofString "a/b", Str.ofString "a*.b", Str.ofString "a*b", Str.ofString "a!.b", Str.ofString "a!b", Str.ofString "a.ab", Str.ofString "a.a", Str.ofString "a.", Str.ofString "b", Str.ofString "a.bb", Str.ofString "a.zb", Str.ofString "a.z", Str.ofString "a.0b", Str.ofString "a.0", Str.ofString "a.9b", Str.ofString "a.9", Str.ofString "a.-b", Str.ofString "a.-", Str.ofString "a..", Str.ofString "a._b", Str.ofString "a._", Str.ofString "a.Ab", Str.ofString "a.A", Str.ofString "a. b", Str.ofString "a. ", Str.ofString "a./b", Str.ofString "a./", Str.ofString "a.*b", Str.ofString "a.*", Str.ofString "a.!b", Str.ofString "a.!", Str.ofString "a.ba", Str.ofString "", Str.ofString "a.bz", Str.ofString "a.b0", Str.ofString "a.b9", Str.ofString "a.b-", Str.ofString "a.b.", Str.ofString "a.b_", Str.ofString "a.bA", Str.ofString "a.b ", Str.ofString "a.b/", Str.ofString "a.b*", Str.ofString "a.b!"])
def tab1 : Str × List Str := (Str.ofString "b", [Str.ofString "ab", Str.ofString "a", Str.ofString "", Str.ofString "b", Str.ofString "bb", Str.ofString "zb", Str.ofString "z", Str.ofString "0b", Str.ofString "0", Str.ofString "9b", Str.ofString "9", Str.ofString "-b", Str.ofString "-", Str.ofString ".b", Str.ofString ".", Str.ofString "_b", Str.ofString "_", Str.ofString "Ab", Str.ofString "A", Str.ofString " b", Str.ofString " ", Str.ofString "/b", Str.ofString "/", Str.ofString "*b", Str.ofString "*", Str.ofString "!b", Str.ofString "!", Str.ofString "ba", Str.ofString "bz", Str.ofString "b0", Str.ofString "b9", Str.ofString "b-", Str.ofString "b.", Str.ofString "b_", Str.ofString "bA", Str.ofString "b ", Str.ofString "b/", Str.ofString "b*", Str.ofString "b!"])
def tab2 : Str × List Str := (Str.ofString "x.a.b", [Str.ofString "ax.a.b", Str.ofString "a.a.b", Str.ofString ".a.b", Str.ofString "x.a.b", Str.ofString "x.a.bx.a.b", Str.ofString "xx.a.b", Str.ofString "zx.a.b", Str.ofString "z.a.b", Str.ofString "0x.a.b", Str.ofString "0.a.b", Str.ofString "9x.a.b", Str.ofString "9.a.b", Str.ofString "-x.a.b", Str.ofString "-.a.b", Str.ofString ".x.a.b", Str.ofString "..a.b", Str.ofString "_x.a.b", Str.ofString "_.a.b", Str.ofString "Ax.a.b", Str.ofString "A.a.b", Str.ofString " x.a.b", Str.ofString " .a.b", Str.ofString "/x.a.b", Str.ofString "/.a.b", Str.ofString "*x.a.b", Str.ofString "*.a.b", Str.ofString "!x.a.b", Str.ofString "!.a.b", Str.ofString "xa.a.b", Str.ofString "xaa.b", Str.ofString "xa.b", Str.ofString "x..a.b", Str.ofString "xz.a.b", Str.ofString "xza.b", Str.ofString "x0.a.b", Str.ofString "x0a.b", Str.ofString "x9.a.b", Str.ofString "x9a.b", Str.ofString "x-.a.b", Str.ofString "x-a.b", Str.ofString "x_.a.b", Str.ofString "x_a.b", Str.ofString "xA.a.b", Str.ofString "xAa.b", Str.ofString "x .a.b", Str.ofString "x a.b", Str.ofString "x/.a.b", Str.ofString "x/a.b", Str.ofString "x*.a.b", Str.ofString "x*a.b", Str.ofString "x!.a.b", Str.ofString "x!a.b", Str.ofString "x.aa.b", Str.ofString "x..b", Str.ofString "a.b", Str.ofString "x.za.b", Str.ofString "x.z.b", Str.ofString "x.0a.b", Str.ofString "x.0.b", Str.ofString "x.9a.b", Str.ofString "x.9.b", Str.ofString "x.-a.b", Str.ofString "x.-.b", Str.ofString "x...b", Str.ofString "x._a.b", Str.ofString "x._.b", Str.ofString "x.Aa.b", Str.ofString "x.A.b", Str.ofString "x. a.b", Str.ofString "x. .b", Str.ofString "x./a.b", Str.ofString "x./.b", Str.ofString "x.*a.b", Str.ofString "x.*.b", Str.ofString "x.!a.b", Str.ofString "x.!.b", Str.ofString "x.aab", Str.ofString "x.ab", Str.ofString ".b", Str.ofString "x.a..b", Str.ofString "x.az.b", Str.ofString "x.azb", Str.ofString "x.a0.b", Str.ofString "x.a0b", Str.ofString "x.a9.b", Str.ofString "x.a9b", Str.ofString "x.a-.b", Str.ofString "x.a-b", Str.ofString "x.a_.b", Str.ofString "x.a_b", Str.ofString "x.aA.b", Str.ofString "x.aAb", Str.ofString "x.a .b", Str.ofString "x.a b", Str.ofString "x.a/.b", Str.ofString "x.a/b", Str.ofString "x.a*.b", Str.ofString "x.a*b", Str.ofString "x.a!.b", Str.ofString "x.a!b", Str.ofString "x.a.ab", Str.ofString "x.a.a", Str.ofString "x.a.", Str.ofString "b", Str.ofString "x.a.bb", Str.ofString "x.a.zb", Str.ofString "x.a.z", Str.ofString "x.a.0b", Str.ofString "x.a.0", Str.ofString "x.a.9b", Str.ofString "x.a.9", Str.ofString "x.a.-b", Str.ofString "x.a.-", Str.ofString "x.a..", Str.ofString "x.a._b", Str.ofString "x.a._", Str.ofString "x.a.Ab", Str.ofString "x.a.A", Str.ofString "x.a. b", Str.ofString "x.a. ", Str.ofString "x.a./b", Str.ofString "x.a./", Str.ofString "x.a.*b", Str.ofString "x.a.*", Str.ofString "x.a.!b", Str.ofString "x.a.!", Str.ofString "x.a.ba", Str.ofString "", Str.ofString "x.a.bz", Str.ofString "x.a.b0", Str.ofString "x.a.b9", Str.ofString "x.a.b-", Str.ofString "x.a.b.", Str.ofString "x.a.b_", Str.ofString "x.a.bA", Str.ofString "x.a.b ", Str.ofString "x.a.b/", Str.ofString "x.a.b*", Str.ofString "x.a.b!"])
def tab3 : Str × List Str := (Str.ofString "y.x.a.b", [Str.ofString "ay.x.a.b", Str.ofString "a.x.a.b", Str.ofString ".x.a.b", Str.ofString "y.x.a.b", Str.ofString "y.x.a.by.x.a.b", Str.ofString "yy.x.a.b", Str.ofString "zy.x.a.b", Str.ofString "z.x.a.b", Str.ofString "0y.x.a.b", Str.ofString "0.x.a.b", Str.ofString "9y.x.a.b", Str.ofString "9.x.a.b", Str.ofString "-y.x.a.b", Str.ofString "-.x.a.b", Str.ofString ".y.x.a.b", Str.ofString "..x.a.b", Str.ofString "_y.x.a.b", Str.ofString "_.x.a.b", Str.ofString "Ay.x.a.b", Str.ofString "A.x.a.b", Str.ofString " y.x.a.b", Str.ofString " .x.a.b", Str.ofString "/y.x.a.b", Str.ofString "/.x.a.b", Str.ofString "*y.x.a.b", Str.ofString "*.x.a.b", Str.ofString "!y.x.a.b", Str.ofString "!.x.a.b", Str.ofString "ya.x.a.b", Str.ofString "yax.a.b", Str.ofString "yx.a.b", Str.ofString "y..x.a.b", Str.ofString "yz.x.a.b", Str.ofString "yzx.a.b", Str.ofString "y0.x.a.b", Str.ofString "y0x.a.b", Str.ofString "y9.x.a.b", Str.ofString "y9x.a.b", Str.ofString "y-.x.a.b", Str.ofString "y-x.a.b", Str.ofString "y_.x.a.b", Str.ofString "y_x.a.b", Str.ofString "yA.x.a.b", Str.ofString "yAx.a.b", Str.ofString "y .x.a.b", Str.ofString "y x.a.b", Str.ofString "y/.x.a.b", Str.ofString "y/x.a.b", Str.ofString "y*.x.a.b", Str.ofString "y*x.a.b", Str.ofString "y!.x.a.b", Str.ofString "y!x.a.b", Str.ofString "y.ax.a.b", Str.ofString "y.a.a.b", Str.ofString "y..a.b", Str.ofString "x.a.b", Str.ofString "y.xx.a.b", Str.ofString "y.zx.a.b", Str.ofString "y.z.a.b", Str.ofString "y.0x.a.b", Str.ofString "y.0.a.b", Str.ofString "y.9x.a.b", Str.ofString "y.9.a.b", Str.ofString "y.-x.a.b", Str.ofString "y.-.a.b", Str.ofString "y...a.b", Str.ofString "y._x.a.b", Str.ofString "y._.a.b", Str.ofString "y.Ax.a.b", Str.ofString "y.A.a.b", Str.ofString "y. x.a.b", Str.ofString "y. .a.b", Str.ofString "y./x.a.b", Str.ofString "y./.a.b", Str.ofString "y.*x.a.b", Str.ofString "y.*.a.b", Str.ofString "y.!x.a.b", Str.ofString "y.!.a.b", Str.ofString "y.xa.a.b", Str.ofString "y.xaa.b", Str.ofString "y.xa.b", Str.ofString ".a.b", Str.ofString "y.x..a.b", Str.ofString "y.xz.a.b", Str.ofString "y.xza.b", Str.ofString "y.x0.a.b", Str.ofString "y.x0a.b", Str.ofString "y.x9.a.b", Str.ofString "y.x9a.b", Str.ofString "y.x-.a.b", Str.ofString "y.x-a.b", Str.ofString "y.x_.a.b", Str.ofString "y.x_a.b", Str.ofString "y.xA.a.b", Str.ofString "y.xAa.b", Str.ofString "y.x .a.b", Str.ofString "y.x a.b", Str.ofString "y.x/.a.b", Str.ofString "y.x/a.b", Str.ofString "y.x*.a.b", Str.ofString "y.x*a.b", Str.ofString "y.x!.a.b", Str.ofString "y.x!a.b", Str.ofString "y.x.aa.b", Str.ofString "y.x..b", Str.ofString "a.b", Str.ofString "y.x.za.b", Str.ofString "y.x.z.b", Str.ofString "y.x.0a.b", Str.ofString "y.x.0.b", Str.ofString "y.x.9a.b", Str.ofString "y.x.9.b", Str.ofString "y.x.-a.b", Str.ofString "y.x.-.b", Str.ofString "y.x...b", Str.ofString "y.x._a.b", Str.ofString "y.x._.b", Str.ofString "y.x.Aa.b", Str.ofString "y.x.A.b", Str.ofString "y.x. a.b", Str.ofString "y.x. .b", Str.ofString "y.x./a.b", Str.ofString "y.x./.b", Str.ofString "y.x.*a.b", Str.ofString "y.x.*.b", Str.ofString "y.x.!a.b", Str.ofString "y.x.!.b", Str.ofString "y.x.aab", Str.ofString "y.x.ab", Str.ofString ".b", Str.ofString "y.x.a..b", Str.ofString "y.x.az.b", Str.ofString "y.x.azb", Str.ofString "y.x.a0.b", Str.ofString "y.x.a0b", Str.ofString "y.x.a9.b", Str.ofString "y.x.a9b", Str.ofString "y.x.a-.b", Str.ofString "y.x.a-b", Str.ofString "y.x.a_.b", Str.ofString "y.x.a_b", Str.ofString "y.x.aA.b", Str.ofString "y.x.aAb", Str.ofString "y.x.a .b", Str.ofString "y.x.a b", Str.ofString "y.x.a/.b", Str.ofString "y.x.a/b", Str.ofString "y.x.a*.b", Str.ofString "y.x.a*b", Str.ofString "y.x.a!.b", Str.ofString "y.x.a!b", Str.ofString "y.x.a.ab", Str.ofString "y.x.a.a", Str.ofString "y.x.a.", Str.ofString "b", Str.ofString "y.x.a.bb", Str.ofString "y.x.a.zb", Str.ofString "y.x.a.z", Str.ofString "y.x.a.0b", Str.ofString "y.x.a.0", Str.ofString "y.x.a.9b", Str.ofString "y.x.a.9", Str.ofString "y.x.a.-b", Str.ofString "y.x.a.-", Str.ofString "y.x.a..", Str.ofString "y.x.a._b", Str.ofString "y.x.a._", Str.ofString "y.x.a.Ab", Str.ofString "y.x.a.A", Str.ofString "y.x.a. b", Str.ofString "y.x.a. ", Str.ofString "y.x.a./b", Str.ofString "y.x.a./", Str.ofString "y.x.a.*b", Str.ofString "y.x.a.*", Str.ofString "y.x.a.!b", Str.ofString "y.x.a.!", Str.ofString "y.x.a.ba", Str.ofString "", Str.ofString "y.x.a.bz", Str.ofString "y.x.a.b0", Str.ofString "y.x.a.b9", Str.ofString "y.x.a.b-", Str.ofString "y.x.a.b.", Str.ofString "y.x.a.b_", Str.ofString "y.x.a.bA", Str.ofString "y.x.a.b ", Str.ofString "y.x.a.b/", Str.ofString "y.x.a.b*", Str.ofString "y.x.a.b!"])
def tab4 : Str × List Str := (Str.ofString "c.uk", [Str.ofString "ac.uk", Str.ofString "a.uk", Str.ofString ".uk", Str.ofString "c.uk", Str.ofString "c.ukc.uk", Str.ofString "cc.uk", Str.ofString "zc.uk", Str.ofString "z.uk", Str.ofString "0c.uk", Str.ofString "0.uk", Str.ofString "9c.uk", Str.ofString "9.uk", Str.ofString "-c.uk", Str.ofString "-.uk", Str.ofString ".c.uk", Str.ofString "..uk", Str.ofString "_c.uk", Str.ofString "_.uk", Str.ofString "Ac.uk", Str.ofString "A.uk", Str.ofString " c.uk", Str.ofString " .uk", Str.ofString "/c.uk", Str.ofString "/.uk", Str.ofString "*c.uk", Str.ofString "*.uk", Str.ofString "!c.uk", Str.ofString "!.uk", Str.ofString "ca.uk", Str.ofString "cauk", Str.ofString "cuk", Str.ofString "c..uk", Str.ofString "cz.uk", Str.ofString "czuk", Str.ofString "c0.uk", Str.ofString "c0uk", Str.ofString "c9.uk", Str.ofString "c9uk", Str.ofString "c-.uk", Str.ofString "c-uk", Str.ofString "c_.uk", Str.ofString "c_uk", Str.ofString "cA.uk", Str.ofString "cAuk", Str.ofString "c .uk", Str.ofString "c uk", Str.ofString "c/.uk", Str.ofString "c/uk", Str.ofString "c*.uk", Str.ofString "c*uk", Str.ofString "c!.uk", Str.ofString "c!uk", Str.ofString "c.auk", Str.ofString "c.ak", Str.ofString "c.k", Str.ofString "uk", Str.ofString "c.uuk", Str.ofString "c.zuk", Str.ofString "c.zk", Str.ofString "c.0uk", Str.ofString "c.0k", Str.ofString "c.9uk", Str.ofString "c.9k", Str.ofString "c.-uk", Str.ofString "c.-k", Str.ofString "c..k", Str.ofString "c._uk", Str.ofString "c._k", Str.ofString "c.Auk", Str.ofString "c.Ak", Str.ofString "c. uk", Str.ofString "c. k", Str.ofString "c./uk", Str.ofString "c./k", Str.ofString "c.*uk", Str.ofString "c.*k", Str.ofString "c.!uk", Str.ofString "c.!k", Str.ofString "c.uak", Str.ofString "c.ua", Str.ofString "c.u", Str.ofString "k", Str.ofString "c.ukk", Str.ofString "c.uzk", Str.ofString "c.uz", Str.ofString "c.u0k", Str.ofString "c.u0", Str.ofString "c.u9k", Str.ofString "c.u9", Str.ofString "c.u-k", Str.ofString "c.u-", Str.ofString "c.u.k", Str.ofString "c.u.", Str.ofString "c.u_k", Str.ofString "c.u_", Str.ofString "c.uAk", Str.ofString "c.uA", Str.ofString "c.u k", Str.ofString "c.u ", Str.ofString "c.u/k", Str.ofString "c.u/", Str.ofString "c.u*k", Str.ofString "c.u*", Str.ofString "c.u!k", Str.ofString "c.u!", Str.ofString "c.uka", Str.ofString "", Str.ofString "c.ukz", Str.ofString "c.uk0", Str.ofString "c.uk9", Str.ofString "c.uk-", Str.ofString "c.uk.", Str.ofString "c.uk_", Str.ofString "c.ukA", Str.ofString "c.uk ", Str.ofString "c.uk/", Str.ofString "c.uk*", Str.ofString "c.uk!"])
def tab5 : Str × List Str := (Str.ofString "uk", [Str.ofString "auk", Str.ofString "ak", Str.ofString "k", Str.ofString "uk", Str.ofString "ukuk", Str.ofString "uuk", Str.ofString "zuk", Str.ofString "zk", Str.ofString "0uk", Str.ofString "0k", Str.ofString "9uk", Str.ofString "9k", Str.ofString "-uk", Str.ofString "-k", Str.ofString ".uk", Str.ofString ".k", Str.ofString "_uk", Str.ofString "_k", Str.ofString "Auk", Str.ofString "Ak", Str.ofString " uk", Str.ofString " k", Str.ofString "/uk", Str.ofString "/k", Str.ofString "*uk", Str.ofString "*k", Str.ofString "!uk", Str.ofString "!k", Str.ofString "uak", Str.ofString "ua", Str.ofString "u", Str.ofString "ukk", Str.ofString "uzk", Str.ofString "uz", Str.ofString "u0k", Str.ofString "u0", Str.ofString "u9k", Str.ofString "u9", Str.ofString "u-k", Str.ofString "u-", Str.ofString "u.k", Str.ofString "u.", Str.ofString "u_k", Str.ofString "u_", Str.ofString "uAk", Str.ofString "uA", Str.ofString "u k", Str.ofString "u ", Str.ofString "u/k", Str.ofString "u/", Str.ofString "u*k", Str.ofString "u*", Str.ofString "u!k", Str.ofString "u!", Str.ofString "uka", Str.ofString "", Str.ofString "ukz", Str.ofString "uk0", Str.ofString "uk9", Str.ofString "uk-", Str.ofString "uk.", Str.ofString "uk_", Str.ofString "ukA", Str.ofString "uk ", Str.ofString "uk/", Str.ofString "uk*", Str.ofString "uk!"])
def tab6 : Str × List Str := (Str.ofString "d.c.uk", [Str.ofString "ad.c.uk", Str.ofString "a.c.uk", Str.ofString ".c.uk", Str.ofString "d.c.uk", Str.ofString "d.c.ukd.c.uk", Str.ofString "dd.c.uk", Str.ofString "zd.c.uk", Str.ofString "z.c.uk", Str.ofString "0d.c.uk", Str.ofString "0.c.uk", Str.ofString "9d.c.uk", Str.ofString "9.c.uk", Str.ofString "-d.c.uk", Str.ofString "-.c.uk", Str.ofString ".d.c.uk", Str.ofString "..c.uk", Str.ofString "_d.c.uk", Str.ofString "_.c.uk", Str.ofString "Ad.c.uk", Str.ofString "A.c.uk", Str.ofString " d.c.uk", Str.ofString " .c.uk", Str.ofString "/d.c.uk", Str.ofString "/.c.uk", Str.ofString "*d.c.uk", Str.ofString "*.c.uk", Str.ofString "!d.c.uk", Str.ofString "!.c.uk", Str.ofString "da.c.uk", Str.ofString "dac.uk", Str.ofString "dc.uk", Str.ofString "d..c.uk", Str.ofString "dz.c.uk", Str.ofString "dzc.uk", Str.ofString "d0.c.uk", Str.ofString "d0c.uk", Str.ofString "d9.c.uk", Str.ofString "d9c.uk", Str.ofString "d-.c.uk", Str.ofString "d-c.uk", Str.ofString "d_.c.uk", Str.ofString "d_c.uk", Str.ofString "dA.c.uk", Str.ofString "dAc.uk", Str.ofString "d .c.uk", Str.ofString "d c.uk", Str.ofString "d/.c.uk", Str.ofString "d/c.uk", Str.ofString "d*.c.uk", Str.ofString "d*c.uk", Str.ofString "d!.c.uk", Str.ofString "d!c.uk", Str.ofString "d.ac.uk", Str.ofString "d.a.uk", Str.ofString "d..uk", Str.ofString "c.uk", Str.ofString "d.cc.uk", Str.ofString "d.zc.uk", Str.ofString "d.z.uk", Str.ofString "d.0c.uk", Str.ofString "d.0.uk", Str.ofString "d.9c.uk", Str.ofString "d.9.uk", Str.ofString "d.-c.uk", Str.ofString "d.-.uk", Str.ofString "d...uk", Str.ofString "d._c.uk", Str.ofString "d._.uk", Str.ofString "d.Ac.uk", Str.ofString "d.A.uk", Str.ofString "d. c.uk", Str.ofString "d. .uk", Str.ofString "d./c.uk", Str.ofString "d./.uk", Str.ofString "d.*c.uk", Str.ofString "d.*.uk", Str.ofString "d.!c.uk", Str.ofString "d.!.uk", Str.ofString "d.ca.uk", Str.ofString "d.cauk", Str.ofString "d.cuk", Str.ofString ".uk", Str.ofString "d.c..uk", Str.ofString "d.cz.uk", Str.ofString "d.czuk", Str.ofString "d.c0.uk", Str.ofString "d.c0uk", Str.ofString "d.c9.uk", Str.ofString "d.c9uk", Str.ofString "d.c-.uk", Str.ofString "d.c-uk", Str.ofString "d.c_.uk", Str.ofString "d.c_uk", Str.ofString "d.cA.uk", Str.ofString "d.cAuk", Str.ofString "d.c .uk", Str.ofString "d.c uk", Str.ofString "d.c/.uk", Str.ofString "d.c/uk", Str.ofString "d.c*.uk", Str.ofString "d.c*uk", Str.ofString "d.c!.uk", Str.ofString "d.c!uk", Str.ofString "d.c.auk", Str.ofString "d.c.ak", Str.ofString "d.c.k", Str.ofString "uk", Str.ofString "d.c.uuk", Str.ofString "d.c.zuk", Str.ofString "d.c.zk", Str.ofString "d.c.0uk", Str.ofString "d.c.0k", Str.ofString "d.c.9uk", Str.ofString "d.c.9k", Str.ofString "d.c.-uk", Str.ofString "d.c.-k", Str.ofString "d.c..k", Str.ofString "d.c._uk", Str.ofString "d.c._k", Str.ofString "d.c.Auk", Str.ofString "d.c.Ak", Str.ofString "d.c. uk", Str.ofString "d.c. k", Str.ofString "d.c./uk", Str.ofString "d.c./k", Str.ofString "d.c.*uk", Str.ofString "d.c.*k", Str.ofString "d.c.!uk", Str.ofString "d.c.!k", Str.ofString "d.c.uak", Str.ofString "d.c.ua", Str.ofString "d.c.u", Str.ofString "k", Str.ofString "d.c.ukk", Str.ofString "d.c.uzk", Str.ofString "d.c.uz", Str.ofString "d.c.u0k", Str.ofString "d.c.u0", Str.ofString "d.c.u9k", Str.ofString "d.c.u9", Str.ofString "d.c.u-k", Str.ofString "d.c.u-", Str.ofString "d.c.u.k", Str.ofString "d.c.u.", Str.ofString "d.c.u_k", Str.ofString "d.c.u_", Str.ofString "d.c.uAk", Str.ofString "d.c.uA", Str.ofString "d.c.u k", Str.ofString "d.c.u ", Str.ofString "d.c.u/k", Str.ofString "d.c.u/", Str.ofString "d.c.u*k", Str.ofString "d.c.u*", Str.ofString "d.c.u!k", Str.ofString "d.c.u!", Str.ofString "d.c.uka", Str.ofString "", Str.ofString "d.c.ukz", Str.ofString "d.c.uk0", Str.ofString "d.c.uk9", Str.ofString "d.c.uk-", Str.ofString "d.c.uk.", Str.ofString "d.c.uk_", Str.ofString "d.c.ukA", Str.ofString "d.c.uk ", Str.ofString "d.c.uk/", Str.ofString "d.c.uk*", Str.ofString "d.c.uk!"])
def tab7 : Str × List Str := (Str.ofString "e.d.c.uk", [Str.ofString "ae.d.c.uk", Str.ofString "a.d.c.uk", Str.ofString ".d.c.uk", Str.ofString "e.d.c.uk", Str.ofString "e.d.c.uke.d.c.uk", Str.ofString "ee.d.c.uk", Str.ofString "ze.d.c.uk", Str.ofString "z.d.c.uk", Str.ofString "0e.d.c.uk", Str.ofString "0.d.c.uk", Str.ofString "9e.d.c.uk", Str.ofString "9.d.c.uk", Str.ofString "-e.d.c.uk", Str.ofString "-.d.c.uk", Str.ofString ".e.d.c.uk", Str.ofString "..d.c.uk", Str.ofString "_e.d.c.uk", Str.ofString "_.d.c.uk", Str.ofString "Ae.d.c.uk", Str.ofString "A.d.c.uk", Str.ofString " e.d.c.uk", Str.ofString " .d.c.uk", Str.ofString "/e.d.c.uk", Str.ofString "/.d.c.uk", Str.ofString "*e.d.c.uk", Str.ofString "*.d.c.uk", Str.ofString "!e.d.c.uk", Str.ofString "!.d.c.uk", Str.ofString "ea.d.c.uk", Str.ofString "ead.c.uk", Str.ofString "ed.c.uk", Str.ofString "e..d.c.uk", Str.ofString "ez.d.c.uk", Str.ofString "ezd.c.uk", Str.ofString "e0.d.c.uk", Str.ofString "e0d.c.uk", Str.ofString "e9.d.c.uk", Str.ofString "e9d.c.uk", Str.ofString "e-.d.c.uk", Str.ofString "e-d.c.uk", Str.ofString "e_.d.c.uk", Str.ofString "e_d.c.uk", Str.ofString "eA.d.c.uk", Str.ofString "eAd.c.uk", Str.ofString "e .d.c.uk", Str.ofString "e d.c.uk", Str.ofString "e/.d.c.uk", Str.ofString "e/d.c.uk", Str.ofString "e*.d.c.uk", Str.ofString "e*d.c.uk", Str.ofString "e!.d.c.uk", Str.ofString "e!d.c.uk", Str.ofString "e.ad.c.uk", Str.ofString "e.a.c.uk", Str.ofString "e..c.uk", Str.ofString "d.c.uk", Str.ofString "e.dd.c.uk", Str.ofString "e.zd.c.uk", Str.ofString "e.z.c.uk", Str.ofString "e.0d.c.uk", Str.ofString "e.0.c.uk", Str.ofString "e.9d.c.uk", Str.ofString "e.9.c.uk", Str.ofString "e.-d.c.uk", Str.ofString "e.-.c.uk", Str.ofString "e...c.uk", Str.ofString "e._d.c.uk", Str.ofString "e._.c.uk", Str.ofString "e.Ad.c.uk", Str.ofString "e.A.c.uk", Str.ofString "e. d.c.uk", Str.ofString "e. .c.uk", Str.ofString "e./d.c.uk", Str.ofString "e./.c.uk", Str.ofString "e.*d.c.uk", Str.ofString "e.*.c.uk", Str.ofString "e.!d.c.uk", Str.ofString "e.!.c.uk", Str.ofString "e.da.c.uk", Str.ofString "e.dac.uk", Str.ofString "e.dc.uk", Str.ofString ".c.uk", Str.ofString "e.d..c.uk", Str.ofString "e.dz.c.uk", Str.ofString "e.dzc.uk", Str.ofString "e.d0.c.uk", Str.ofString "e.d0c.uk", Str.ofString "e.d9.c.uk", Str.ofString "e.d9c.uk", Str.ofString "e.d-.c.uk", Str.ofString "e.d-c.uk", Str.ofString "e.d_.c.uk", Str.ofString "e.d_c.uk", Str.ofString "e.dA.c.uk", Str.ofString "e.dAc.uk", Str.ofString "e.d .c.uk", Str.ofString "e.d c.uk", Str.ofString "e.d/.c.uk", Str.ofString "e.d/c.uk", Str.ofString "e.d*.c.uk", Str.ofString "e.d*c.uk", Str.ofString "e.d!.c.uk", Str.ofString "e.d!c.uk", Str.ofString "e.d.ac.uk", Str.ofString "e.d.a.uk", Str.ofString "e.d..uk", Str.ofString "c.uk", Str.ofString "e.d.cc.uk", Str.ofString "e.d.zc.uk", Str.ofString "e.d.z.uk", Str.ofString "e.d.0c.uk", Str.ofString "e.d.0.uk", Str.ofString "e.d.9c.uk", Str.ofString "e.d.9.uk", Str.ofString "e.d.-c.uk", Str.ofString "e.d.-.uk", Str.ofString "e.d...uk", Str.ofString "e.d._c.uk", Str.ofString "e.d._.uk", Str.ofString "e.d.Ac.uk", Str.ofString "e.d.A.uk", Str.ofString "e.d. c.uk", Str.ofString "e.d. .uk", Str.ofString "e.d./c.uk", Str.ofString "e.d./.uk", Str.ofString "e.d.*c.uk", Str.ofString "e.d.*.uk", Str.ofString "e.d.!c.uk", Str.ofString "e.d.!.uk", Str.ofString "e.d.ca.uk", Str.ofString "e.d.cauk", Str.ofString "e.d.cuk", Str.ofString ".uk", Str.ofString "e.d.c..uk", Str.ofString "e.d.cz.uk", Str.ofString "e.d.czuk", Str.ofString "e.d.c0.uk", Str.ofString "e.d.c0uk", Str.ofString "e.d.c9.uk", Str.ofString "e.d.c9uk", Str.ofString "e.d.c-.uk", Str.ofString "e.d.c-uk", Str.ofString "e.d.c_.uk", Str.ofString "e.d.c_uk", Str.ofString "e.d.cA.uk", Str.ofString "e.d.cAuk", Str.ofString "e.d.c .uk", Str.ofString "e.d.c uk", Str.ofString "e.d.c/.uk", Str.ofString "e.d.c/uk", Str.ofString "e.d.c*.uk", Str.ofString "e.d.c*uk", Str.ofString "e.d.c!.uk", Str.ofString "e.d.c!uk", Str.ofString "e.d.c.auk", Str.ofString "e.d.c.ak", Str.ofString "e.d.c.k", Str.ofString "uk", Str.ofString "e.d.c.uuk", Str.ofString "e.d.c.zuk", Str.ofString "e.d.c.zk", Str.ofString "e.d.c.0uk", Str.ofString "e.d.c.0k", Str.ofString "e.d.c.9uk", Str.ofString "e.d.c.9k", Str.ofString "e.d.c.-uk", Str.ofString "e.d.c.-k", Str.ofString "e.d.c..k", Str.ofString "e.d.c._uk", Str.ofString "e.d.c._k", Str.ofString "e.d.c.Auk", Str.ofString "e.d.c.Ak", Str.ofString "e.d.c. uk", Str.ofString "e.d.c. k", Str.ofString "e.d.c./uk", Str.ofString "e.d.c./k", Str.ofString "e.d.c.*uk", Str.ofString "e.d.c.*k", Str.ofString "e.d.c.!uk", Str.ofString "e.d.c.!k", Str.ofString "e.d.c.uak", Str.ofString "e.d.c.ua", Str.ofString "e.d.c.u", Str.ofString "k", Str.ofString "e.d.c.ukk", Str.ofString "e.d.c.uzk", Str.ofString "e.d.c.uz", Str.ofString "e.d.c.u0k", Str.ofString "e.d.c.u0", Str.ofString "e.d.c.u9k", Str.ofString "e.d.c.u9", Str.ofString "e.d.c.u-k", Str.ofString "e.d.c.u-", Str.ofString "e.d.c.u.k", Str.ofString "e.d.c.u.", Str.ofString "e.d.c.u_k", Str.ofString "e.d.c.u_", Str.ofString "e.d.c.uAk", Str.ofString "e.d.c.uA", Str.ofString "e.d.c.u k", Str.ofString "e.d.c.u ", Str.ofString "e.d.c.u/k", Str.ofString "e.d.c.u/", Str.ofString "e.d.c.u*k", Str.ofString "e.d.c.u*", Str.ofString "e.d.c.u!k", Str.ofString "e.d.c.u!", Str.ofString "e.d.c.uka", Str.ofString "", Str.ofString "e.d.c.ukz", Str.ofString "e.d.c.uk0", Str.ofString "e.d.c.uk9", Str.ofString "e.d.c.uk-", Str.ofString "e.d.c.uk.", Str.ofString "e.d.c.uk_", Str.ofString "e.d.c.ukA", Str.ofString "e.d.c.uk ", Str.ofString "e.d.c.uk/", Str.ofString "e.d.c.uk*", Str.ofString "e.d.c.uk!"])
def tab8 : Str × List Str := (Str.ofString "w.ck", [Str.ofString "aw.ck", Str.ofString "a.ck", Str.ofString ".ck", Str.ofString "w.ck", Str.ofString "w.ckw.ck", Str.ofString "ww.ck", Str.ofString "zw.ck", Str.ofString "z.ck", Str.ofString "0w.ck", Str.ofString "0.ck", Str.ofString "9w.ck", Str.ofString "9.ck", Str.ofString "-w.ck", Str.ofString "-.ck", Str.ofString ".w.ck", Str.ofString "..ck", Str.ofString "_w.ck", Str.ofString "_.ck", Str.ofString "Aw.ck", Str.ofString "A.ck", Str.ofString " w.ck", Str.ofString " .ck", Str.ofString "/w.ck", Str.ofString "/.ck", Str.ofString "*w.ck", Str.ofString "*.ck", Str.ofString "!w.ck", Str.ofString "!.ck", Str.ofString "wa.ck", Str.ofString "wack", Str.ofString "wck", Str.ofString "w..ck", Str.ofString "wz.ck", Str.ofString "wzck", Str.ofString "w0.ck", Str.ofString "w0ck", Str.ofString "w9.ck", Str.ofString "w9ck", Str.ofString "w-.ck", Str.ofString "w-ck", Str.ofString "w_.ck", Str.ofString "w_ck", Str.ofString "wA.ck", Str.ofString "wAck", Str.ofString "w .ck", Str.ofString "w ck", Str.ofString "w/.ck", Str.ofString "w/ck", Str.ofString "w*.ck", Str.ofString "w*ck", Str.ofString "w!.ck", Str.ofString "w!ck", Str.ofString "w.ack", Str.ofString "w.ak", Str.ofString "w.k", Str.ofString "ck", Str.ofString "w.cck", Str.ofString "w.zck", Str.ofString "w.zk", Str.ofString "w.0ck", Str.ofString "w.0k", Str.ofString "w.9ck", Str.ofString "w.9k", Str.ofString "w.-ck", Str.ofString "w.-k", Str.ofString "w..k", Str.ofString "w._ck", Str.ofString "w._k", Str.ofString "w.Ack", Str.ofString "w.Ak", Str.ofString "w. ck", Str.ofString "w. k", Str.ofString "w./ck", Str.ofString "w./k", Str.ofString "w.*ck", Str.ofString "w.*k", Str.ofString "w.!ck", Str.ofString "w.!k", Str.ofString "w.cak", Str.ofString "w.ca", Str.ofString "w.c", Str.ofString "k", Str.ofString "w.ckk", Str.ofString "w.czk", Str.ofString "w.cz", Str.ofString "w.c0k", Str.ofString "w.c0", Str.ofString "w.c9k", Str.ofString "w.c9", Str.ofString "w.c-k", Str.ofString "w.c-", Str.ofString "w.c.k", Str.ofString "w.c.", Str.ofString "w.c_k", Str.ofString "w.c_", Str.ofString "w.cAk", Str.ofString "w.cA", Str.ofString "w.c k", Str.ofString "w.c ", Str.ofString "w.c/k", Str.ofString "w.c/", Str.ofString "w.c*k", Str.ofString "w.c*", Str.ofString "w.c!k", Str.ofString "w.c!", Str.ofString "w.cka", Str.ofString "", Str.ofString "w.ckz", Str.ofString "w.ck0", Str.ofString "w.ck9", Str.ofString "w.ck-", Str.ofString "w.ck.", Str.ofString "w.ck_", Str.ofString "w.ckA", Str.ofString "w.ck ", Str.ofString "w.ck/", Str.ofString "w.ck*", Str.ofString "w.ck!"])
def tab9 : Str × List Str := (Str.ofString "v.w.ck", [Str.ofString "av.w.ck", Str.ofString "a.w.ck", Str.ofString ".w.ck", Str.ofString "v.w.ck", Str.ofString "v.w.ckv.w.ck", Str.ofString "vv.w.ck", Str.ofString "zv.w.ck", Str.ofString "z.w.ck", Str.ofString "0v.w.ck", Str.ofString "0.w.ck", Str.ofString "9v.w.ck", Str.ofString "9.w.ck", Str.ofString "-v.w.ck", Str.ofString "-.w.ck", Str.ofString ".v.w.ck", Str.ofString "..w.ck", Str.ofString "_v.w.ck", Str.ofString "_.w.ck", Str.ofString "Av.w.ck", Str.ofString "A.w.ck", Str.ofString " v.w.ck", Str.ofString " .w.ck", Str.ofString "/v.w.ck", Str.ofString "/.w.ck", Str.ofString "*v.w.ck", Str.ofString "*.w.ck", Str.ofString "!v.w.ck", Str.ofString "!.w.ck", Str.ofString "va.w.ck", Str.ofString "vaw.ck", Str.ofString "vw.ck", Str.ofString "v..w.ck", Str.ofString "vz.w.ck", Str.ofString "vzw.ck", Str.ofString "v0.w.ck", Str.ofString "v0w.ck", Str.ofString "v9.w.ck", Str.ofString "v9w.ck", Str.ofString "v-.w.ck", Str.ofString "v-w.ck", Str.ofString "v_.w.ck", Str.ofString "v_w.ck", Str.ofString "vA.w.ck", Str.ofString "vAw.ck", Str.ofString "v .w.ck", Str.ofString "v w.ck", Str.ofString "v/.w.ck", Str.ofString "v/w.ck", Str.ofString "v*.w.ck", Str.ofString "v*w.ck", Str.ofString "v!.w.ck", Str.ofString "v!w.ck", Str.ofString "v.aw.ck", Str.ofString "v.a.ck", Str.ofString "v..ck", Str.ofString "w.ck", Str.ofString "v.ww.ck", Str.ofString "v.zw.ck", Str.ofString "v.z.ck", Str.ofString "v.0w.ck", Str.ofString "v.0.ck", Str.ofString "v.9w.ck", Str.ofString "v.9.ck", Str.ofString "v.-w.ck", Str.ofString "v.-.ck", Str.ofString "v...ck", Str.ofString "v._w.ck", Str.ofString "v._.ck", Str.ofString "v.Aw.ck", Str.ofString "v.A.ck", Str.ofString "v. w.ck", Str.ofString "v. .ck", Str.ofString "v./w.ck", Str.ofString "v./.ck", Str.ofString "v.*w.ck", Str.ofString "v.*.ck", Str.ofString "v.!w.ck", Str.ofString "v.!.ck", Str.ofString "v.wa.ck", Str.ofString "v.wack", Str.ofString "v.wck", Str.ofString ".ck", Str.ofString "v.w..ck", Str.ofString "v.wz.ck", Str.ofString "v.wzck", Str.ofString "v.w0.ck", Str.ofString "v.w0ck", Str.ofString "v.w9.ck", Str.ofString "v.w9ck", Str.ofString "v.w-.ck", Str.ofString "v.w-ck", Str.ofString "v.w_.ck", Str.ofString "v.w_ck", Str.ofString "v.wA.ck", Str.ofString "v.wAck", Str.ofString "v.w .ck", Str.ofString "v.w ck", Str.ofString "v.w/.ck", Str.ofString "v.w/ck", Str.ofString "v.w*.ck", Str.ofString "v.w*ck", Str.ofString "v.w!.ck", Str.ofString "v.w!ck", Str.ofString "v.w.ack", Str.ofString "v.w.ak", Str.ofString "v.w.k", Str.ofString "ck", Str.ofString "v.w.cck", Str.ofString "v.w.zck", Str.ofString "v.w.zk", Str.ofString "v.w.0ck", Str.ofString "v.w.0k", Str.ofString "v.w.9ck", Str.ofString "v.w.9k", Str.ofString "v.w.-ck", Str.ofString "v.w.-k", Str.ofString "v.w..k", Str.ofString "v.w._ck", Str.ofString "v.w._k", Str.ofString "v.w.Ack", Str.ofString "v.w.Ak", Str.ofString "v.w. ck", Str.ofString "v.w. k", Str.ofString "v.w./ck", Str.ofString "v.w./k", Str.ofString "v.w.*ck", Str.ofString "v.w.*k", Str.ofString "v.w.!ck", Str.ofString "v.w.!k", Str.ofString "v.w.cak", Str.ofString "v.w.ca", Str.ofString "v.w.c", Str.ofString "k", Str.ofString "v.w.ckk", Str.ofString "v.w.czk", Str.ofString "v.w.cz", Str.ofString "v.w.c0k", Str.ofString "v.w.c0", Str.ofString "v.w.c9k", Str.ofString "v.w.c9", Str.ofString "v.w.c-k", Str.ofString "v.w.c-", Str.ofString "v.w.c.k", Str.ofString "v.w.c.", Str.ofString "v.w.c_k", Str.ofString "v.w.c_", Str.ofString "v.w.cAk", Str.ofString "v.w.cA", Str.ofString "v.w.c k", Str.ofString "v.w.c ", Str.ofString "v.w.c/k", Str.ofString "v.w.c/", Str.ofString "v.w.c*k", Str.ofString "v.w.c*", Str.ofString "v.w.c!k", Str.ofString "v.w.c!", Str.ofString "v.w.cka", Str.ofString "", Str.ofString "v.w.ckz", Str.ofString "v.w.ck0", Str.ofString "v.w.ck9", Str.ofString "v.w.ck-", Str.ofString "v.w.ck.", Str.ofString "v.w.ck_", Str.ofString "v.w.ckA", Str.ofString "v.w.ck ", Str.ofString "v.w.ck/", Str.ofString "v.w.ck*", Str.ofString "v.w.ck!"])
def tab10 : Str × List Str := (Str.ofString "ck", [Str.ofString "ack", Str.ofString "ak", Str.ofString "k", Str.ofString "ck", Str.ofString "ckck", Str.ofString "cck", Str.ofString "zck", Str.ofString "zk", Str.ofString "0ck", Str.ofString "0k", Str.ofString "9ck", Str.ofString "9k", Str.ofString "-ck", Str.ofString "-k", Str.ofString ".ck", Str.ofString ".k", Str.ofString "_ck", Str.ofString "_k", Str.ofString "Ack", Str.ofString "Ak", Str.ofString " ck", Str.ofString " k", Str.ofString "/ck", Str.ofString "/k", Str.ofString "*ck", Str.ofString "*k", Str.ofString "!ck", Str.ofString "!k", Str.ofString "cak", Str.ofString "ca", Str.ofString "c", Str.ofString "ckk", Str.ofString "czk", Str.ofString "cz", Str.ofString "c0k", Str.ofString "c0", Str.ofString "c9k", Str.ofString "c9", Str.ofString "c-k", Str.ofString "c-", Str.ofString "c.k", Str.ofString "c.", Str.ofString "c_k", Str.ofString "c_", Str.ofString "cAk", Str.ofString "cA", Str.ofString "c k", Str.ofString "c ", Str.ofString "c/k", Str.ofString "c/", Str.ofString "c*k", Str.ofString "c*", Str.ofString "c!k", Str.ofString "c!", Str.ofString "cka", Str.ofString "", Str.ofString "ckz", Str.ofString "ck0", Str.ofString "ck9", Str.ofString "ck-", Str.ofString "ck.", Str.ofString "ck_", Str.ofString "ckA", Str.ofString "ck ", Str.ofString "ck/", Str.ofString "ck*", Str.ofString "ck!"])
def tab11 : Str × List Str := (Str.ofString "g-1.a.b", [Str.ofString "ag-1.a.b", Str.ofString "a-1.a.b", Str.ofString "-1.a.b", Str.ofString "g-1.a.b", Str.ofString "g-1.a.bg-1.a.b", Str.ofString "gg-1.a.b", Str.ofString "zg-1.a.b", Str.ofString "z-1.a.b", Str.ofString "0g-1.a.b", Str.ofString "0-1.a.b", Str.ofString "9g-1.a.b", Str.ofString "9-1.a.b", Str.ofString "-g-1.a.b", Str.ofString "--1.a.b", Str.ofString ".g-1.a.b", Str.ofString ".-1.a.b", Str.ofString "_g-1.a.b", Str.ofString "_-1.a.b", Str.ofString "Ag-1.a.b", Str.ofString "A-1.a.b", Str.ofString " g-1.a.b", Str.ofString " -1.a.b", Str.ofString "/g-1.a.b", Str.ofString "/-1.a.b", Str.ofString "*g-1.a.b", Str.ofString "*-1.a.b", Str.ofString "!g-1.a.b", Str.ofString "!-1.a.b", Str.ofString "ga-1.a.b", Str.ofString "ga1.a.b", Str.ofString "g1.a.b", Str.ofString "g--1.a.b", Str.ofString "gz-1.a.b", Str.ofString "gz1.a.b", Str.ofString "g0-1.a.b", Str.ofString "g01.a.b", Str.ofString "g9-1.a.b", Str.ofString "g91.a.b", Str.ofString "g.-1.a.b", Str.ofString "g.1.a.b", Str.ofString "g_-1.a.b", Str.ofString "g_1.a.b", Str.ofString "gA-1.a.b", Str.ofString "gA1.a.b", Str.ofString "g -1.a.b", Str.ofString "g 1.a.b", Str.ofString "g/-1.a.b", Str.ofString "g/1.a.b", Str.ofString "g*-1.a.b", Str.ofString "g*1.a.b", Str.ofString "g!-1.a.b", Str.ofString "g!1.a.b", Str.ofString "g-a1.a.b", Str.ofString "g-a.a.b", Str.ofString "g-.a.b", Str.ofString "1.a.b", Str.ofString "g-11.a.b", Str.ofString "g-z1.a.b", Str.ofString "g-z.a.b", Str.ofString "g-01.a.b", Str.ofString "g-0.a.b", Str.ofString "g-91.a.b", Str.ofString "g-9.a.b", Str.ofString "g--.a.b", Str.ofString "g-.1.a.b", Str.ofString "g-..a.b", Str.ofString "g-_1.a.b", Str.ofString "g-_.a.b", Str.ofString "g-A1.a.b", Str.ofString "g-A.a.b", Str.ofString "g- 1.a.b", Str.ofString "g- .a.b", Str.ofString "g-/1.a.b", Str.ofString "g-/.a.b", Str.ofString "g-*1.a.b", Str.ofString "g-*.a.b", Str.ofString "g-!1.a.b", Str.ofString "g-!.a.b", Str.ofString "g-1a.a.b", Str.ofString "g-1aa.b", Str.ofString "g-1a.b", Str.ofString ".a.b", Str.ofString "g-1..a.b", Str.ofString "g-1z.a.b", Str.ofString "g-1za.b", Str.ofString "g-10.a.b", Str.ofString "g-10a.b", Str.ofString "g-19.a.b", Str.ofString "g-19a.b", Str.ofString "g-1-.a.b", Str.ofString "g-1-a.b", Str.ofString "g-1_.a.b", Str.ofString "g-1_a.b", Str.ofString "g-1A.a.b", Str.ofString "g-1Aa.b", Str.ofString "g-1 .a.b", Str.ofString "g-1 a.b", Str.ofString "g-1/.a.b", Str.ofString "g-1/a.b", Str.ofString "g-1*.a.b", Str.ofString "g-1*a.b", Str.ofString "g-1!.a.b", Str.ofString "g-1!a.b", Str.ofString "g-1.aa.b", Str.ofString "g-1..b", Str.ofString "a.b", Str.ofString "g-1.za.b", Str.ofString "g-1.z.b", Str.ofString "g-1.0a.b", Str.ofString "g-1.0.b", Str.ofString "g-1.9a.b", Str.ofString "g-1.9.b", Str.ofString "g-1.-a.b", Str.ofString "g-1.-.b", Str.ofString "g-1...b", Str.ofString "g-1._a.b", Str.ofString "g-1._.b", Str.ofString "g-1.Aa.b", Str.ofString "g-1.A.b", Str.ofString "g-1. a.b", Str.ofString "g-1. .b", Str.ofString "g-1./a.b", Str.ofString "g-1./.b", Str.ofString "g-1.*a.b", Str.ofString "g-1.*.b", Str.ofString "g-1.!a.b", Str.ofString "g-1.!.b", Str.ofString "g-1.aab", Str.ofString "g-1.ab", Str.ofString ".b", Str.ofString "g-1.a..b", Str.ofString "g-1.az.b", Str.ofString "g-1.azb", Str.ofString "g-1.a0.b", Str.ofString "g-1.a0b", Str.ofString "g-1.a9.b", Str.ofString "g-1.a9b", Str.ofString "g-1.a-.b", Str.ofString "g-1.a-b", Str.ofString "g-1.a_.b", Str.ofString "g-1.a_b", Str.ofString "g-1.aA.b", Str.ofString "g-1.aAb", Str.ofString "g-1.a .b", Str.ofString "g-1.a b", Str.ofString "g-1.a/.b", Str.ofString "g-1.a/b", Str.ofString "g-1.a*.b", Str.ofString "g-1.a*b", Str.ofString "g-1.a!.b", Str.ofString "g-1.a!b", Str.ofString "g-1.a.ab", Str.ofString "g-1.a.a", Str.ofString "g-1.a.", Str.ofString "b", Str.ofString "g-1.a.bb", Str.ofString "g-1.a.zb", Str.ofString "g-1.a.z", Str.ofString "g-1.a.0b", Str.ofString "g-1.a.0", Str.ofString "g-1.a.9b", Str.ofString "g-1.a.9", Str.ofString "g-1.a.-b", Str.ofString "g-1.a.-", Str.ofString "g-1.a..", Str.ofString "g-1.a._b", Str.ofString "g-1.a._", Str.ofString "g-1.a.Ab", Str.ofString "g-1.a.A", Str.ofString "g-1.a. b", Str.ofString "g-1.a. ", Str.ofString "g-1.a./b", Str.ofString "g-1.a./", Str.ofString "g-1.a.*b", Str.ofString "g-1.a.*", Str.ofString "g-1.a.!b", Str.ofString "g-1.a.!", Str.ofString "g-1.a.ba", Str.ofString "", Str.ofString "g-1.a.bz", Str.ofString "g-1.a.b0", Str.ofString "g-1.a.b9", Str.ofString "g-1.a.b-", Str.ofString "g-1.a.b.", Str.ofString "g-1.a.b_", Str.ofString "g-1.a.bA", Str.ofString "g-1.a.b ", Str.ofString "g-1.a.b/", Str.ofString "g-1.a.b*", Str.ofString "g-1.a.b!"])
def tab12 : Str × List Str := (Str.ofString "7.b", [Str.ofString "a7.b", Str.ofString "a.b", Str.ofString ".b", Str.ofString "7.b", Str.ofString "7.b7.b", Str.ofString "77.b", Str.ofString "z7.b", Str.ofString "z.b", Str.ofString "07.b", Str.ofString "0.b", Str.ofString "97.b", Str.ofString "9.b", Str.ofString "-7.b", Str.ofString "-.b", Str.ofString ".7.b", Str.ofString "..b", Str.ofString "_7.b", Str.ofString "_.b", Str.ofString "A7.b", Str.ofString "A.b", Str.ofString " 7.b", Str.ofString " .b", Str.ofString "/7.b", Str.ofString "/.b", Str.ofString "*7.b", Str.ofString "*.b", Str.ofString "!7.b", Str.ofString "!.b", Str.ofString "7a.b", Str.ofString "7ab", Str.ofString "7b", Str.ofString "7..b", Str.ofString "7z.b", Str.ofString "7zb", Str.ofString "70.b", Str.ofString "70b", Str.ofString "79.b", Str.ofString "79b", Str.ofString "7-.b", Str.ofString "7-b", Str.ofString "7_.b", Str.ofString "7_b", Str.ofString "7A.b", Str.ofString "7Ab", Str.ofString "7 .b", Str.ofString "7 b", Str.ofString "7/.b", Str.ofString "7/b", Str.ofString "7*.b", Str.ofString "7*b", Str.ofString "7!.b", Str.ofString "7!b", Str.ofString "7.ab", Str.ofString "7.a", Str.ofString "7.", Str.ofString "b", Str.ofString "7.bb", Str.ofString "7.zb", Str.ofString "7.z", Str.ofString "7.0b", Str.ofString "7.0", Str.ofString "7.9b", Str.ofString "7.9", Str.ofString "7.-b", Str.ofString "7.-", Str.ofString "7..", Str.ofString "7._b", Str.ofString "7._", Str.ofString "7.Ab", Str.ofString "7.A", Str.ofString "7. b", Str.ofString "7. ", Str.ofString "7./b", Str.ofString "7./", Str.ofString "7.*b", Str.ofString "7.*", Str.ofString "7.!b", Str.ofString "7.!", Str.ofString "7.ba", Str.ofString "", Str.ofString "7.bz", Str.ofString "7.b0", Str.ofString "7.b9", Str.ofString "7.b-", Str.ofString "7.b.", Str.ofString "7.b_", Str.ofString "7.bA", Str.ofString "7.b ", Str.ofString "7.b/", Str.ofString "7.b*", Str.ofString "7.b!"])
def tab13 : Str × List Str := (Str.ofString "p.q", [Str.ofString "ap.q", Str.ofString "a.q", Str.ofString ".q", Str.ofString "p.q", Str.ofString "p.qp.q", Str.ofString "pp.q", Str.ofString "zp.q", Str.ofString "z.q", Str.ofString "0p.q", Str.ofString "0.q", Str.ofString "9p.q", Str.ofString "9.q", Str.ofString "-p.q", Str.ofString "-.q", Str.ofString ".p.q", Str.ofString "..q", Str.ofString "_p.q", Str.ofString "_.q", Str.ofString "Ap.q", Str.ofString "A.q", Str.ofString " p.q", Str.ofString " .q", Str.ofString "/p.q", Str.ofString "/.q", Str.ofString "*p.q", Str.ofString "*.q", Str.ofString "!p.q", Str.ofString "!.q", Str.ofString "pa.q", Str.ofString "paq", Str.ofString "pq", Str.ofString "p..q", Str.ofString "pz.q", Str.ofString "pzq", Str.ofString "p0.q", Str.ofString "p0q", Str.ofString "p9.q", Str.ofString "p9q", Str.ofString "p-.q", Str.ofString "p-q", Str.ofString "p_.q", Str.ofString "p_q", Str.ofString "pA.q", Str.ofString "pAq", Str.ofString "p .q", Str.ofString "p q", Str.ofString "p/.q", Str.ofString "p/q", Str.ofString "p*.q", Str.ofString "p*q", Str.ofString "p!.q", Str.ofString "p!q", Str.ofString "p.aq", Str.ofString "p.a", Str.ofString "p.", Str.ofString "q", Str.ofString "p.qq", Str.ofString "p.zq", Str.ofString "p.z", Str.ofString "p.0q", Str.ofString "p.0", Str.ofString "p.9q", Str.ofString "p.9", Str.ofString "p.-q", Str.ofString "p.-", Str.ofString "p..", Str.ofString "p._q", Str.ofString "p._", Str.ofString "p.Aq", Str.ofString "p.A", Str.ofString "p. q", Str.ofString "p. ", Str.ofString "p./q", Str.ofString "p./", Str.ofString "p.*q", Str.ofString "p.*", Str.ofString "p.!q", Str.ofString "p.!", Str.ofString "p.qa", Str.ofString "", Str.ofString "p.qz", Str.ofString "p.q0", Str.ofString "p.q9", Str.ofString "p.q-", Str.ofString "p.q.", Str.ofString "p.q_", Str.ofString "p.qA", Str.ofString "p.q ", Str.ofString "p.q/", Str.ofString "p.q*", Str.ofString "p.q!"])
def tab14 : Str × List Str := (Str.ofString "12345678", [Str.ofString "a12345678", Str.ofString "a2345678", Str.ofString "2345678", Str.ofString "12345678", Str.ofString "1234567812345678", Str.ofString "112345678", Str.ofString "z12345678", Str.ofString "z2345678", Str.ofString "012345678", Str.ofString "02345678", Str.ofString "912345678", Str.ofString "92345678", Str.ofString "-12345678", Str.ofString "-2345678", Str.ofString ".12345678", Str.ofString ".2345678", Str.ofString "_12345678", Str.ofString "_2345678", Str.ofString "A12345678", Str.ofString "A2345678", Str.ofString " 12345678", Str.ofString " 2345678", Str.ofString "/12345678", Str.ofString "/2345678", Str.ofString "*12345678", Str.ofString "*2345678", Str.ofString "!12345678", Str.ofString "!2345678", Str.ofString "1a2345678", Str.ofString "1a345678", Str.ofString "1345678", Str.ofString "122345678", Str.ofString "1z2345678", Str.ofString "1z345678", Str.ofString "102345678", Str.ofString "10345678", Str.ofString "192345678", Str.ofString "19345678", Str.ofString "1-2345678", Str.ofString "1-345678", Str.ofString "1.2345678", Str.ofString "1.345678", Str.ofString "1_2345678", Str.ofString "1_345678", Str.ofString "1A2345678", Str.ofString "1A345678", Str.ofString "1 2345678", Str.ofString "1 345678", Str.ofString "1/2345678", Str.ofString "1/345678", Str.ofString "1*2345678", Str.ofString "1*345678", Str.ofString "1!2345678", Str.ofString "1!345678", Str.ofString "12a345678", Str.ofString "12a45678", Str.ofString "1245678", Str.ofString "345678", Str.ofString "123345678", Str.ofString "12z345678", Str.ofString "12z45678", Str.ofString "120345678", Str.ofString "12045678", Str.ofString "129345678", Str.ofString "12945678", Str.ofString "12-345678", Str.ofString "12-45678", Str.ofString "12.345678", Str.ofString "12.45678", Str.ofString "12_345678", Str.ofString "12_45678", Str.ofString "12A345678", Str.ofString "12A45678", Str.ofString "12 345678", Str.ofString "12 45678", Str.ofString "12/345678", Str.ofString "12/45678", Str.ofString "12*345678", Str.ofString "12*45678", Str.ofString "12!345678", Str.ofString "12!45678", Str.ofString "123a45678", Str.ofString "123a5678", Str.ofString "1235678", Str.ofString "45678", Str.ofString "123445678", Str.ofString "123z45678", Str.ofString "123z5678", Str.ofString "123045678", Str.ofString "12305678", Str.ofString "123945678", Str.ofString "12395678", Str.ofString "123-45678", Str.ofString "123-5678", Str.ofString "123.45678", Str.ofString "123.5678", Str.ofString "123_45678", Str.ofString "123_5678", Str.ofString "123A45678", Str.ofString "123A5678", Str.ofString "123 45678", Str.ofString "123 5678", Str.ofString "123/45678", Str.ofString "123/5678", Str.ofString "123*45678", Str.ofString "123*5678", Str.ofString "123!45678", Str.ofString "123!5678", Str.ofString "1234a5678", Str.ofString "1234a678", Str.ofString "1234678", Str.ofString "5678", Str.ofString "123455678", Str.ofString "1234z5678", Str.ofString "1234z678", Str.ofString "123405678", Str.ofString "12340678", Str.ofString "123495678", Str.ofString "12349678", Str.ofString "1234-5678", Str.ofString "1234-678", Str.ofString "1234.5678", Str.ofString "1234.678", Str.ofString "1234_5678", Str.ofString "1234_678", Str.ofString "1234A5678", Str.ofString "1234A678", Str.ofString "1234 5678", Str.ofString "1234 678", Str.ofString "1234/5678", Str.ofString "1234/678", Str.ofString "1234*5678", Str.ofString "1234*678", Str.ofString "1234!5678", Str.ofString "1234!678", Str.ofString "12345a678", Str.ofString "12345a78", Str.ofString "1234578", Str.ofString "678", Str.ofString "123456678", Str.ofString "12345z678", Str.ofString "12345z78", Str.ofString "123450678", Str.ofString "12345078", Str.ofString "123459678", Str.ofString "12345978", Str.ofString "12345-678", Str.ofString "12345-78", Str.ofString "12345.678", Str.ofString "12345.78", Str.ofString "12345_678", Str.ofString "12345_78", Str.ofString "12345A678", Str.ofString "12345A78", Str.ofString "12345 678", Str.ofString "12345 78", Str.ofString "12345/678", Str.ofString "12345/78", Str.ofString "12345*678", Str.ofString "12345*78", Str.ofString "12345!678", Str.ofString "12345!78", Str.ofString "123456a78", Str.ofString "123456a8", Str.ofString "1234568", Str.ofString "78", Str.ofString "123456778", Str.ofString "123456z78", Str.ofString "123456z8", Str.ofString "123456078", Str.ofString "12345608", Str.ofString "123456978", Str.ofString "12345698", Str.ofString "123456-78", Str.ofString "123456-8", Str.ofString "123456.78", Str.ofString "123456.8", Str.ofString "123456_78", Str.ofString "123456_8", Str.ofString "123456A78", Str.ofString "123456A8", Str.ofString "123456 78", Str.ofString "123456 8", Str.ofString "123456/78", Str.ofString "123456/8", Str.ofString "123456*78", Str.ofString "123456*8", Str.ofString "123456!78", Str.ofString "123456!8", Str.ofString "1234567a8", Str.ofString "1234567a", Str.ofString "1234567", Str.ofString "8", Str.ofString "123456788", Str.ofString "1234567z8", Str.ofString "1234567z", Str.ofString "123456708", Str.ofString "12345670", Str.ofString "123456798", Str.ofString "12345679", Str.ofString "1234567-8", Str.ofString "1234567-", Str.ofString "1234567.8", Str.ofString "1234567.", Str.ofString "1234567_8", Str.ofString "1234567_", Str.ofString "1234567A8", Str.ofString "1234567A", Str.ofString "1234567 8", Str.ofString "1234567 ", Str.ofString "1234567/8", Str.ofString "1234567/", Str.ofString "1234567*8", Str.ofString "1234567*", Str.ofString "1234567!8", Str.ofString "1234567!", Str.ofString "12345678a", Str.ofString "", Str.ofString "12345678z", Str.ofString "123456780", Str.ofString "123456789", Str.ofString "12345678-", Str.ofString "12345678.", Str.ofString "12345678_", Str.ofString "12345678A", Str.ofString "12345678 ", Str.ofString "12345678/", Str.ofString "12345678*", Str.ofString "12345678!"])
def tab15 : Str × List Str := (Str.ofString "a-b9", [Str.ofString "aa-b9", Str.ofString "a-b9", Str.ofString "-b9", Str.ofString "a-b9a-b9", Str.ofString "za-b9", Str.ofString "z-b9", Str.ofString "0a-b9", Str.ofString "0-b9", Str.ofString "9a-b9", Str.ofString "9-b9", Str.ofString "-a-b9", Str.ofString "--b9", Str.ofString ".a-b9", Str.ofString ".-b9", Str.ofString "_a-b9", Str.ofString "_-b9", Str.ofString "Aa-b9", Str.ofString "A-b9", Str.ofString " a-b9", Str.ofString " -b9", Str.ofString "/a-b9", Str.ofString "/-b9", Str.ofString "*a-b9", Str.ofString "*-b9", Str.ofString "!a-b9", Str.ofString "!-b9", Str.ofString "aab9", Str.ofString "ab9", Str.ofString "a--b9", Str.ofString "az-b9", Str.ofString "azb9", Str.ofString "a0-b9", Str.ofString "a0b9", Str.ofString "a9-b9", Str.ofString "a9b9", Str.ofString "a.-b9", Str.ofString "a.b9", Str.ofString "a_-b9", Str.ofString "a_b9", Str.ofString "aA-b9", Str.ofString "aAb9", Str.ofString "a -b9", Str.ofString "a b9", Str.ofString "a/-b9", Str.ofString "a/b9", Str.ofString "a*-b9", Str.ofString "a*b9", Str.ofString "a!-b9", Str.ofString "a!b9", Str.ofString "a-ab9", Str.ofString "a-a9", Str.ofString "a-9", Str.ofString "b9", Str.ofString "a-bb9", Str.ofString "a-zb9", Str.ofString "a-z9", Str.ofString "a-0b9", Str.ofString "a-09", Str.ofString "a-9b9", Str.ofString "a-99", Str.ofString "a--9", Str.ofString "a-.b9", Str.ofString "a-.9", Str.ofString "a-_b9", Str.ofString "a-_9", Str.ofString "a-Ab9", Str.ofString "a-A9", Str.ofString "a- b9", Str.ofString "a- 9", Str.ofString "a-/b9", Str.ofString "a-/9", Str.ofString "a-*b9", Str.ofString "a-*9", Str.ofString "a-!b9", Str.ofString "a-!9", Str.ofString "a-ba9", Str.ofString "a-ba", Str.ofString "a-b", Str.ofString "9", Str.ofString "a-b99", Str.ofString "a-bz9", Str.ofString "a-bz", Str.ofString "a-b09", Str.ofString "a-b0", Str.ofString "a-b-9", Str.ofString "a-b-", Str.ofString "a-b.9", Str.ofString "a-b.", Str.ofString "a-b_9", Str.ofString "a-b_", Str.ofString "a-bA9", Str.ofString "a-bA", Str.ofString "a-b 9", Str.ofString "a-b ", Str.ofString "a-b/9", Str.ofString "a-b/", Str.ofString "a-b*9", Str.ofString "a-b*", Str.ofString "a-b!9", Str.ofString "a-b!", Str.ofString "a-b9a", Str.ofString "", Str.ofString "a-b9z", Str.ofString "a-b90", Str.ofString "a-b9-", Str.ofString "a-b9.", Str.ofString "a-b9_", Str.ofString "a-b9A", Str.ofString "a-b9 ", Str.ofString "a-b9/", Str.ofString "a-b9*", Str.ofString "a-b9!"])
def tab16 : Str × List Str := (Str.ofString "a.b.c.d.e", [Str.ofString "aa.b.c.d.e", Str.ofString "a.b.c.d.e", Str.ofString ".b.c.d.e", Str.ofString "a.b.c.d.ea.b.c.d.e", Str.ofString "za.b.c.d.e", Str.ofString "z.b.c.d.e", Str.ofString "0a.b.c.d.e", Str.ofString "0.b.c.d.e", Str.ofString "9a.b.c.d.e", Str.ofString "9.b.c.d.e", Str.ofString "-a.b.c.d.e", Str.ofString "-.b.c.d.e", Str.ofString ".a.b.c.d.e", Str.ofString "..b.c.d.e", Str.ofString "_a.b.c.d.e", Str.ofString "_.b.c.d.e", Str.ofString "Aa.b.c.d.e", Str.ofString "A.b.c.d.e", Str.ofString " a.b.c.d.e", Str.ofString " .b.c.d.e", Str.ofString "/a.b.c.d.e", Str.ofString "/.b.c.d.e", Str.ofString "*a.b.c.d.e", Str.ofString "*.b.c.d.e", Str.ofString "!a.b.c.d.e", Str.ofString "!.b.c.d.e", Str.ofString "aab.c.d.e", Str.ofString "ab.c.d.e", Str.ofString "a..b.c.d.e", Str.ofString "az.b.c.d.e", Str.ofString "azb.c.d.e", Str.ofString "a0.b.c.d.e", Str.ofString "a0b.c.d.e", Str.ofString "a9.b.c.d.e", Str.ofString "a9b.c.d.e", Str.ofString "a-.b.c.d.e", Str.ofString "a-b.c.d.e", Str.ofString "a_.b.c.d.e", Str.ofString "a_b.c.d.e", Str.ofString "aA.b.c.d.e", Str.ofString "aAb.c.d.e", Str.ofString "a .b.c.d.e", Str.ofString "a b.c.d.e", Str.ofString "a/.b.c.d.e", Str.ofString "a/b.c.d.e", Str.ofString "a*.b.c.d.e", Str.ofString "a*b.c.d.e", Str.ofString "a!.b.c.d.e", Str.ofString "a!b.c.d.e", Str.ofString "a.ab.c.d.e", Str.ofString "a.a.c.d.e", Str.ofString "a..c.d.e", Str.ofString "b.c.d.e", Str.ofString "a.bb.c.d.e", Str.ofString "a.zb.c.d.e", Str.ofString "a.z.c.d.e", Str.ofString "a.0b.c.d.e", Str.ofString "a.0.c.d.e", Str.ofString "a.9b.c.d.e", Str.ofString "a.9.c.d.e", Str.ofString "a.-b.c.d.e", Str.ofString "a.-.c.d.e", Str.ofString "a...c.d.e", Str.ofString "a._b.c.d.e", Str.ofString "a._.c.d.e", Str.ofString "a.Ab.c.d.e", Str.ofString "a.A.c.d.e", Str.ofString "a. b.c.d.e", Str.ofString "a. .c.d.e", Str.ofString "a./b.c.d.e", Str.ofString "a./.c.d.e", Str.ofString "a.*b.c.d.e", Str.ofString "a.*.c.d.e", Str.ofString "a.!b.c.d.e", Str.ofString "a.!.c.d.e", Str.ofString "a.ba.c.d.e", Str.ofString "a.bac.d.e", Str.ofString "a.bc.d.e", Str.ofString ".c.d.e", Str.ofString "a.b..c.d.e", Str.ofString "a.bz.c.d.e", Str.ofString "a.bzc.d.e", Str.ofString "a.b0.c.d.e", Str.ofString "a.b0c.d.e", Str.ofString "a.b9.c.d.e", Str.ofString "a.b9c.d.e", Str.ofString "a.b-.c.d.e", Str.ofString "a.b-c.d.e", Str.ofString "a.b_.c.d.e", Str.ofString "a.b_c.d.e", Str.ofString "a.bA.c.d.e", Str.ofString "a.bAc.d.e", Str.ofString "a.b .c.d.e", Str.ofString "a.b c.d.e", Str.ofString "a.b/.c.d.e", Str.ofString "a.b/c.d.e", Str.ofString "a.b*.c.d.e", Str.ofString "a.b*c.d.e", Str.ofString "a.b!.c.d.e", Str.ofString "a.b!c.d.e", Str.ofString "a.b.ac.d.e", Str.ofString "a.b.a.d.e", Str.ofString "a.b..d.e", Str.ofString "c.d.e", Str.ofString "a.b.cc.d.e", Str.ofString "a.b.zc.d.e", Str.ofString "a.b.z.d.e", Str.ofString "a.b.0c.d.e", Str.ofString "a.b.0.d.e", Str.ofString "a.b.9c.d.e", Str.ofString "a.b.9.d.e", Str.ofString "a.b.-c.d.e", Str.ofString "a.b.-.d.e", Str.ofString "a.b...d.e", Str.ofString "a.b._c.d.e", Str.ofString "a.b._.d.e", Str.ofString "a.b.Ac.d.e", Str.ofString "a.b.A.d.e", Str.ofString "a.b. c.d.e", Str.ofString "a.b. .d.e", Str.ofString "a.b./c.d.e", Str.ofString "a.b./.d.e", Str.ofString "a.b.*c.d.e", Str.ofString "a.b.*.d.e", Str.ofString "a.b.!c.d.e", Str.ofString "a.b.!.d.e", Str.ofString "a.b.ca.d.e", Str.ofString "a.b.cad.e", Str.ofString "a.b.cd.e", Str.ofString ".d.e", Str.ofString "a.b.c..d.e", Str.ofString "a.b.cz.d.e", Str.ofString "a.b.czd.e", Str.ofString "a.b.c0.d.e", Str.ofString "a.b.c0d.e", Str.ofString "a.b.c9.d.e", Str.ofString "a.b.c9d.e", Str.ofString "a.b.c-.d.e", Str.ofString "a.b.c-d.e", Str.ofString "a.b.c_.d.e", Str.ofString "a.b.c_d.e", Str.ofString "a.b.cA.d.e", Str.ofString "a.b.cAd.e", Str.ofString "a.b.c .d.e", Str.ofString "a.b.c d.e", Str.ofString "a.b.c/.d.e", Str.ofString "a.b.c/d.e", Str.ofString "a.b.c*.d.e", Str.ofString "a.b.c*d.e", Str.ofString "a.b.c!.d.e", Str.ofString "a.b.c!d.e", Str.ofString "a.b.c.ad.e", Str.ofString "a.b.c.a.e", Str.ofString "a.b.c..e", Str.ofString "d.e", Str.ofString "a.b.c.dd.e", Str.ofString "a.b.c.zd.e", Str.ofString "a.b.c.z.e", Str.ofString "a.b.c.0d.e", Str.ofString "a.b.c.0.e", Str.ofString "a.b.c.9d.e", Str.ofString "a.b.c.9.e", Str.ofString "a.b.c.-d.e", Str.ofString "a.b.c.-.e", Str.ofString "a.b.c...e", Str.ofString "a.b.c._d.e", Str.ofString "a.b.c._.e", Str.ofString "a.b.c.Ad.e", Str.ofString "a.b.c.A.e", Str.ofString "a.b.c. d.e", Str.ofString "a.b.c. .e", Str.ofString "a.b.c./d.e", Str.ofString "a.b.c./.e", Str.ofString "a.b.c.*d.e", Str.ofString "a.b.c.*.e", Str.ofString "a.b.c.!d.e", Str.ofString "a.b.c.!.e", Str.ofString "a.b.c.da.e", Str.ofString "a.b.c.dae", Str.ofString "a.b.c.de", Str.ofString ".e", Str.ofString "a.b.c.d..e", Str.ofString "a.b.c.dz.e", Str.ofString "a.b.c.dze", Str.ofString "a.b.c.d0.e", Str.ofString "a.b.c.d0e", Str.ofString "a.b.c.d9.e", Str.ofString "a.b.c.d9e", Str.ofString "a.b.c.d-.e", Str.ofString "a.b.c.d-e", Str.ofString "a.b.c.d_.e", Str.ofString "a.b.c.d_e", Str.ofString "a.b.c.dA.e", Str.ofString "a.b.c.dAe", Str.ofString "a.b.c.d .e", Str.ofString "a.b.c.d e", Str.ofString "a.b.c.d/.e", Str.ofString "a.b.c.d/e", Str.ofString "a.b.c.d*.e", Str.ofString "a.b.c.d*e", Str.ofString "a.b.c.d!.e", Str.ofString "a.b.c.d!e", Str.ofString "a.b.c.d.ae", Str.ofString "a.b.c.d.a", Str.ofString "a.b.c.d.", Str.ofString "e", Str.ofString "a.b.c.d.ee", Str.ofString "a.b.c.d.ze", Str.ofString "a.b.c.d.z", Str.ofString "a.b.c.d.0e", Str.ofString "a.b.c.d.0", Str.ofString "a.b.c.d.9e", Str.ofString "a.b.c.d.9", Str.ofString "a.b.c.d.-e", Str.ofString "a.b.c.d.-", Str.ofString "a.b.c.d..", Str.ofString "a.b.c.d._e", Str.ofString "a.b.c.d._", Str.ofString "a.b.c.d.Ae", Str.ofString "a.b.c.d.A", Str.ofString "a.b.c.d. e", Str.ofString "a.b.c.d. ", Str.ofString "a.b.c.d./e", Str.ofString "a.b.c.d./", Str.ofString "a.b.c.d.*e", Str.ofString "a.b.c.d.*", Str.ofString "a.b.c.d.!e", Str.ofString "a.b.c.d.!", Str.ofString "a.b.c.d.ea", Str.ofString "", Str.ofString "a.b.c.d.ez", Str.ofString "a.b.c.d.e0", Str.ofString "a.b.c.d.e9", Str.ofString "a.b.c.d.e-", Str.ofString "a.b.c.d.e.", Str.ofString "a.b.c.d.e_", Str.ofString "a.b.c.d.eA", Str.ofString "a.b.c.d.e ", Str.ofString "a.b.c.d.e/", Str.ofString "a.b.c.d.e*", Str.ofString "a.b.c.d.e!"])
def tab : List (Str × List Str) := [tab0, tab1, tab2, tab3, tab4, tab5, tab6, tab7, tab8, tab9, tab10, tab11, tab12, tab13, tab14, tab15, tab16]
def extra : List Str := [Str.ofString "", Str.ofString ".", Str.ofString "a..b", Str.ofString "-", Str.ofString "a.1", Str.ofString "1.a", Str.ofString "123456789", Str.ofString "a.b.c.d.e.f"]
theorem seq_true {x y : Str} (h : seq x y = true) : x = y := by
  rw [← seq_eq] at h
  simpa using h
theorem seq_refl (x : Str) : seq x x = true := by unfold seq; simp
def spE1 : FnE := (fLst (aCons (f2 addD (f2 addD (fCut (fVar 2) oNone (oSome (fVar 3))) (fVar 4)) (fCut (fVar 2) (oSome (fVar 3)) oNone)) (aCons (f2 addD (f2 addD (fCut (fVar 2) oNone (oSome (fVar 3))) (fVar 4)) (fCut (fVar 2) (oSome (f2 addD (fVar 3) (fC (.int 1)))) oNone)) (aCons (f2 addD (fCut (fVar 2) oNone (oSome (fVar 3))) (fCut (fVar 2) (oSome (f2 addD (fVar 3) (fC (.int 1)))) oNone)) aNil))))
def spE2 : FnE := (f2 addD (fVar 5) (fLst (aCons (fVar 2) (aCons (fCut (fVar 2) (oSome (fVar 3)) oNone) (aCons (f2 addD (fVar 2) (fVar 2)) (aCons (f2 addD (fCut (fVar 2) oNone (oSome (f2 addD (fVar 3) (fC (.int 1))))) (fCut (fVar 2) (oSome (fVar 3)) oNone)) aNil))))))
def spE3 : FnE := (fCall F__law_drawn 3 (aCons (fVar 0) (aCons (fVar 1) (aCons (f2 addD (fB1 lenD (aCons (fVar 2) aNil)) (fC (.int 1))) aNil))))
def spE4 : FnE := (f2 ixD (fC (.str "az09-._A /*!")) (fCall F__law_drawn 3 (aCons (fVar 0) (aCons (f2 addD (fVar 1) (fC (.int 1))) (aCons (fC (.int 12)) aNil)))))
section
variable (S Z : Option Dv)
def s4 (t : Str) (k : Nat) (g : Str) : Ev := [S, Z, some (.str t), some (.int k), some (.str g), none]
def s5 (t : Str) (k : Nat) (g : Str) (l : Dv) : Ev := [S, Z, some (.str t), some (.int k), some (.str g), some l]
def inTab (l : List Str) (o : Option (Rs Dv)) : Bool := match o with
  | some (.ok (.lst ds)) => (ds.all fun d => match d with | .str x => l.any fun y => seq x y | _ => false) && decide (ds.length = 7)
  | _ => false
def spOk (r : Str × List Str) (k : Nat) (g : Str) : Bool := match spE1 (s4 S Z r.1 k g) with
  | some (.ok l) => inTab r.2 (spE2 (s5 S Z r.1 k g l))
  | _ => false
theorem sp_0 : ((List.range (tab0.1.length + 1)).all fun k => sgs.all fun g => spOk S Z tab0 k g) = true := by kernel_rfl
theorem sp_1 : ((List.range (tab1.1.length + 1)).all fun k => sgs.all fun g => spOk S Z tab1 k g) = true := by kernel_rfl
theorem sp_2 : ((List.range (tab2.1.length + 1)).all fun k => sgs.all fun g => spOk S Z tab2 k g) = true := by kernel_rfl
theorem sp_3 : ((List.range (tab3.1.length + 1)).all fun k => sgs.all fun g => spOk S Z tab3 k g) = true := by kernel_rfl
theorem sp_4 : ((List.range (tab4.1.length + 1)).all fun k => sgs.all fun g => spOk S Z tab4 k g) = true := by kernel_rfl
theorem sp_5 : ((List.range (tab5.1.length + 1)).all fun k => sgs.all fun g => spOk S Z tab5 k g) = true := by kernel_rfl
theorem sp_6 : ((List.range (tab6.1.length + 1)).all fun k => sgs.all fun g => spOk S Z tab6 k g) = true := by kernel_rfl
theorem sp_7 : ((List.range (tab7.1.length + 1)).all fun k => sgs.all fun g => spOk S Z tab7 k g) = true := by kernel_rfl
theorem sp_8 : ((List.range (tab8.1.length + 1)).all fun k => sgs.all fun g => spOk S Z tab8 k g) = true := by kernel_rfl
theorem sp_9 : ((List.range (tab9.1.length + 1)).all fun k => sgs.all fun g => spOk S Z tab9 k g) = true := by kernel_rfl
theorem sp_10 : ((List.range (tab10.1.length + 1)).all fun k => sgs.all fun g => spOk S Z tab10 k g) = true := by kernel_rfl
theorem sp_11 : ((List.range (tab11.1.length + 1)).all fun k => sgs.all fun g => spOk S Z tab11 k g) = true := by kernel_rfl
theorem sp_12 : ((List.range (tab12.1.length + 1)).all fun k => sgs.all fun g => spOk S Z tab12 k g) = true := by kernel_rfl
theorem sp_13 : ((List.range (tab13.1.length + 1)).all fun k => sgs.all fun g => spOk S Z tab13 k g) = true := by kernel_rfl
theorem sp_14 : ((List.range (tab14.1.length + 1)).all fun k => sgs.all fun g => spOk S Z tab14 k g) = true := by kernel_rfl
theorem sp_15 : ((List.range (tab15.1.length + 1)).all fun k => sgs.all fun g => spOk S Z tab15 k g) = true := by kernel_rfl
theorem sp_16 : ((List.range (tab16.1.length + 1)).all fun k => sgs.all fun g => spOk S Z tab16 k g) = true := by kernel_rfl
theorem sp_all : (tab.all fun r => (List.range (r.1.length + 1)).all fun k => sgs.all fun g => spOk S Z r k g) = true := by
  simp only [tab, List.all_cons, List.all_nil, Bool.and_true, sp_0, sp_1, sp_2, sp_3, sp_4, sp_5, sp_6, sp_7, sp_8, sp_9, sp_10, sp_11, sp_12, sp_13, sp_14, sp_15, sp_16]
end
def splX (x : Str) : Option (Rs Dv) := splitD x [.str (Str.ofString ".")]
def labOk (x : Str) : Bool := match F_is_label [.str x], F__law_is_label [.str x] with
  | some (.ok (.bl a)), some (.ok (.bl b)) => a == b
  | _, _ => false
def namOk (x : Str) : Bool := match F_is_name [.str x], F__law_is_name [.str x] with
  | some (.ok (.bl true)), some (.ok (.bl true)) => (match splX x with
    | some (.ok v) => isF (bnd (neX v v) toB)
    | _ => false)
  | some (.ok (.bl false)), some (.ok (.bl false)) => true
  | _, _ => false
def goodB (x : Str) : Bool := decide (x.length ≤ 1000) && labOk x && namOk x
theorem good_0 : (tab0.2.all fun x => goodB x) = true := by kernel_rfl
theorem good_1 : (tab1.2.all fun x => goodB x) = true := by kernel_rfl
theorem good_2 : (tab2.2.all fun x => goodB x) = true := by kernel_rfl
theorem good_3 : (tab3.2.all fun x => goodB x) = true := by kernel_rfl
theorem good_4 : (tab4.2.all fun x => goodB x) = true := by kernel_rfl
theorem good_5 : (tab5.2.all fun x => goodB x) = true := by kernel_rfl
theorem good_6 : (tab6.2.all fun x => goodB x) = true := by kernel_rfl
theorem good_7 : (tab7.2.all fun x => goodB x) = true := by kernel_rfl
theorem good_8 : (tab8.2.all fun x => goodB x) = true := by kernel_rfl
theorem good_9 : (tab9.2.all fun x => goodB x) = true := by kernel_rfl
theorem good_10 : (tab10.2.all fun x => goodB x) = true := by kernel_rfl
theorem good_11 : (tab11.2.all fun x => goodB x) = true := by kernel_rfl
theorem good_12 : (tab12.2.all fun x => goodB x) = true := by kernel_rfl
theorem good_13 : (tab13.2.all fun x => goodB x) = true := by kernel_rfl
theorem good_14 : (tab14.2.all fun x => goodB x) = true := by kernel_rfl
theorem good_15 : (tab15.2.all fun x => goodB x) = true := by kernel_rfl
theorem good_16 : (tab16.2.all fun x => goodB x) = true := by kernel_rfl
theorem good_x : (extra.all fun x => goodB x) = true := by kernel_rfl
theorem good_all : (tab.all fun r => r.2.all fun x => goodB x) = true := by
  simp only [tab, List.all_cons, List.all_nil, Bool.and_true, good_0, good_1, good_2, good_3, good_4, good_5, good_6, good_7, good_8, good_9, good_10, good_11, good_12, good_13, good_14, good_15, good_16]
theorem menu_tab : (menu.all fun p => tab.any fun r => seq r.1 p && r.2.any fun y => seq p y) = true := by kernel_rfl
end G
namespace FD
open PySem PySem.Spec PyProof.Rows L2
theorem fSeq_exc {a b : FnS} {ρ : Ev} {c : Nat} (h : a ρ = some (.exc c)) : fSeq a b ρ = some (.exc c) := by unfold fSeq; rw [h]; rfl
theorem fDrop_exc {v : FnE} {ρ : Ev} {c : Nat} (h : v ρ = some (.exc c)) : fDrop v ρ = some (.exc c) := by unfold fDrop; rw [h]; rfl
theorem fRaise_exc {v : FnE} {ρ : Ev} {c : Nat} {d : Dv} (h : v ρ = some (.ok d)) : fRaise c v ρ = some (.exc c) := by unfold fRaise; rw [h]; rfl
theorem fCallE_of {F : List Dv → Option (Rs Dv)} {n : Nat} {g : FnA} {ρ : Ev} {ds : List Dv} (h : g ρ = some (.ok ds)) (hl : ds.length = n) : fCallE F n g ρ = F ds := by
  unfold fCallE; rw [h]
  show (if _ then _ else _) = _
  rw [if_pos hl]
theorem callE1 (F : List Dv → Option (Rs Dv)) {f : FnE} {ρ : Ev} {a : Dv} {r : Option (Rs Dv)} (h : f ρ = some (.ok a)) (hF : F [a] = r) : fCallE F 1 (aCons f aNil) ρ = r := (fCallE_of (aCons_of h aNil_of) rfl).trans hF
theorem callE2 (F : List Dv → Option (Rs Dv)) {f g : FnE} {ρ : Ev} {a b : Dv} {r : Option (Rs Dv)} (h : f ρ = some (.ok a)) (h' : g ρ = some (.ok b)) (hF : F [a, b] = r) : fCallE F 2 (aCons f (aCons g aNil)) ρ = r := (fCallE_of (aCons_of h (aCons_of h' aNil_of)) rfl).trans hF
theorem runE_rt {n : Nat} {B : FnS} {ds : List Dv} {d : Dv} (h : B (ds.map some ++ List.replicate (n - ds.length) none) = some (.rt d)) : runE n B ds = some (.ok d) := by unfold runE; rw [h]
theorem runE_nx {n : Nat} {B : FnS} {ds : List Dv} {ρ : Ev} (h : B (ds.map some ++ List.replicate (n - ds.length) none) = some (.nx ρ)) : runE n B ds = some (.ok .non) := by unfold runE; rw [h]
theorem runE_exc {n : Nat} {B : FnS} {ds : List Dv} {c : Nat} (h : B (ds.map some ++ List.replicate (n - ds.length) none) = some (.exc c)) : runE n B ds = some (.exc c) := by unfold runE; rw [h]
theorem fTry_ok {m i N : Nat} {f g : FnE} {ρ : Ev} {d : Dv} (h : f ρ = some (.ok d)) : fTry m i N f g ρ = some (.rt d) := by unfold fTry; rw [h]
theorem fTry_exc {m i N : Nat} {f g : FnE} {ρ : Ev} {c : Nat} {d : Dv} (h : f ρ = some (.exc c)) (hc : c < m) (hg : g ((List.replicate N none).set i (some (.exn c))) = some (.ok d)) : fTry m i N f g ρ = some (.rt d) := by
  unfold fTry; rw [h]
  dsimp only
  rw [if_pos hc, hg]
theorem fM_of {g : Str → List Dv → Option (Rs Dv)} {fo : FnE} {ga : FnA} {ρ : Ev} {i : Str} {xs : List Dv} (h : fo ρ = some (.ok (.str i))) (h' : ga ρ = some (.ok xs)) : fM g fo ga ρ = g i xs := by
  unfold fM; rw [h]
  show bnd (ga ρ) _ = _
  rw [h']; rfl
theorem call3 (F : List Dv → Option (Rs Dv)) {f g k : FnE} {ρ : Ev} {a b c d : Dv} (h : f ρ = some (.ok a)) (h' : g ρ = some (.ok b)) (h'' : k ρ = some (.ok c)) (hF : F [a, b, c] = some (.ok d)) : fCall F 3 (aCons f (aCons g (aCons k aNil))) ρ = some (.ok d) := fCall_of (aCons_of h (aCons_of h' (aCons_of h'' aNil_of))) rfl hF
end FD
namespace G
open PySem PySem.Spec PyProof.Rows L2 FD
abbrev yes : Option (Rs Dv) := some (.ok (.bl true))
abbrev no : Option (Rs Dv) := some (.ok (.bl false))
def rf0 : Dv := .tup [.str (Str.ofString "refused"), .int 0]
theorem need_T {d : Dv} (h : F_is_name [d] = yes) : FX_need_name [d] = some (.ok .non) := by
  refine runE_nx (ρ := [some d]) ?_
  show BX_need_name [some d] = _
  unfold BX_need_name
  exact ifS_skip (bNot_of (k := true) (fB_of (call1 F_is_name rfl h)))
theorem need_F {d : Dv} (h : F_is_name [d] = no) : FX_need_name [d] = some (.exc 0) := by
  refine runE_exc ?_
  show BX_need_name [some d] = _
  unfold BX_need_name
  rw [ifS_T (bNot_of (k := false) (fB_of (call1 F_is_name rfl h)))]
  exact fRaise_exc rfl
theorem labels_F {d : Dv} (h : F_is_name [d] = no) : FX_labels [d] = some (.exc 0) := by
  refine runE_exc ?_
  show BX_labels [some d] = _
  unfold BX_labels
  exact fSeq_exc (fDrop_exc (callE1 FX_need_name rfl (need_F h)))
theorem labels_T {x : Str} {v : Dv} (h : F_is_name [.str x] = yes) (hs : splX x = some (.ok v)) : FX_labels [.str x] = some (.ok v) := by
  refine runE_rt ?_
  show BX_labels [some (.str x)] = _
  unfold BX_labels
  rw [fSeq_nx (fDrop_nx (callE1 FX_need_name rfl (need_T h)))]
  exact fRet_rt ((fM_of rfl (aCons_of rfl aNil_of)).trans hs)
theorem within_1 {a b : Dv} (h : F_is_name [a] = no) : FX_within [a, b] = some (.exc 0) := by
  refine runE_exc ?_
  show BX_within [some a, some b] = _
  unfold BX_within
  exact fSeq_exc (fDrop_exc (callE1 FX_need_name rfl (need_F h)))
theorem within_2 {a b : Dv} (ha : F_is_name [a] = yes) (hb : F_is_name [b] = no) : FX_within [a, b] = some (.exc 0) := by
  refine runE_exc ?_
  show BX_within [some a, some b] = _
  unfold BX_within
  rw [fSeq_nx (fDrop_nx (callE1 FX_need_name rfl (need_T ha)))]
  exact fSeq_exc (fDrop_exc (callE1 FX_need_name rfl (need_F hb)))
theorem within_T {a b v : Dv} (ha : F_is_name [a] = yes) (hb : F_is_name [b] = yes) (h : F_lies_within [a, b] = some (.ok v)) : FX_within [a, b] = some (.ok v) := by
  refine runE_rt ?_
  show BX_within [some a, some b] = _
  unfold BX_within
  rw [fSeq_nx (fDrop_nx (callE1 FX_need_name rfl (need_T ha))), fSeq_nx (fDrop_nx (callE1 FX_need_name rfl (need_T hb)))]
  exact fRet_rt (call2 F_lies_within rfl rfl h)
theorem refd : FM__law_refused [.exn 0] = some (.ok rf0) := by kernel_rfl
theorem hand : (fCall FM__law_refused 1 (aCons (fVar 3) aNil)) ((List.replicate 4 none).set 3 (some (.exn 0))) = some (.ok rf0) := call1 FM__law_refused rfl refd
theorem told0_T {a c v : Dv} (h : FX_labels [a] = some (.ok v)) : F__law_told [.int 0, a, c] = some (.ok v) := by
  refine run_rt ?_
  show B__law_told [some (.int 0), some a, some c, none] = _
  unfold B__law_told
  refine fTry_ok ?_
  rw [fIf_T rfl]
  exact callE1 FX_labels rfl h
theorem told0_F {a c : Dv} (h : FX_labels [a] = some (.exc 0)) : F__law_told [.int 0, a, c] = some (.ok rf0) := by
  refine run_rt ?_
  show B__law_told [some (.int 0), some a, some c, none] = _
  unfold B__law_told
  refine fTry_exc (c := 0) ?_ (by decide) hand
  rw [fIf_T rfl]
  exact callE1 FX_labels rfl h
theorem told1_T {a c v : Dv} (h : FX_within [a, c] = some (.ok v)) : F__law_told [.int 1, a, c] = some (.ok v) := by
  refine run_rt ?_
  show B__law_told [some (.int 1), some a, some c, none] = _
  unfold B__law_told
  refine fTry_ok ?_
  rw [fIf_F rfl]
  exact callE2 FX_within rfl rfl h
theorem told1_F {a c : Dv} (h : FX_within [a, c] = some (.exc 0)) : F__law_told [.int 1, a, c] = some (.ok rf0) := by
  refine run_rt ?_
  show B__law_told [some (.int 1), some a, some c, none] = _
  unfold B__law_told
  refine fTry_exc (c := 0) ?_ (by decide) hand
  rw [fIf_F rfl]
  exact callE2 FX_within rfl rfl h
theorem neS (k : Bool) : bnd (neX (.bl k) (.bl k)) toB = some (.ok false) := by cases k <;> rfl
theorem neR : bnd (neX rf0 rf0) toB = some (.ok false) := by kernel_rfl
/-- one name within another, by its texts -/
def wB (a b : Str) : Bool := if seq a b then true else Txt.endswith a (Str.ofString "." ++ b)
theorem wOr {f g : FnE} {ρ : Ev} {a b : Str} (ha : f ρ = some (.ok (.str a))) (hb : g ρ = some (.ok (.str b))) (hl : b.length ≤ 1000) : vOr (f2 eqX f g) (fM (strB Txt.endswith) f (aCons (f2 addD (fC (.str (Str.ofString "."))) g) aNil)) ρ = some (.ok (.bl (wB a b))) := by
  have e1 : f2 eqX f g ρ = some (.ok (.bl (seq a b))) := (f2_of ha hb).trans rfl
  unfold wB
  cases q : seq a b with
  | true => rw [q] at e1; exact vOr_T e1
  | false =>
    rw [q] at e1
    rw [vOr_F e1]
    have e2 : f2 addD (fC (.str (Str.ofString "."))) g ρ = some (.ok (.str (Str.ofString "." ++ b))) := by
      rw [f2_of (x := .str (Str.ofString ".")) rfl hb]
      show (if (Str.ofString ".").length + b.length ≤ 100000 then _ else _) = _
      have h1 : (Str.ofString ".").length = 1 := by kernel_rfl
      rw [if_pos (by rw [h1]; omega)]
    exact (fM_of ha (aCons_of e2 aNil_of)).trans rfl
theorem lies_ok {a b : Str} (hl : b.length ≤ 1000) : F_lies_within [.str a, .str b] = some (.ok (.bl (wB a b))) := by
  refine run_rt ?_
  show B_lies_within [some (.str a), some (.str b)] = _
  unfold B_lies_within
  exact fRet_rt (wOr rfl rfl hl)
section
variable (S T : Option Dv) (p o : Str) (d : Dv)
def g4 : Ev := [S, some (.str p), some (.str o), T, some d, none, none]
def tl (a b : Bool) : Dv := .lst [.bl a, .bl b]
def g5 (a b : Bool) : Ev := [S, some (.str p), some (.str o), T, some d, some (tl a b), none]
def g6 (a b : Bool) (w : Dv) : Ev := [S, some (.str p), some (.str o), T, some d, some (tl a b), some w]
theorem pre {a b : Bool} (h1 : F_is_label [d] = some (.ok (.bl a))) (h2 : F__law_is_label [d] = some (.ok (.bl a))) (h3 : F_is_name [d] = some (.ok (.bl b))) (h4 : F__law_is_name [d] = some (.ok (.bl b))) :
    v_law_3 (g4 S T p o d) = some (.ok (tl a b)) ∧ c_law_4 (g5 S T p o d a b) = some (.ok false) ∧ c_law_3 (g5 S T p o d a b) = some (.ok false) := by
  refine ⟨fLst_of (aCons_of (call1 F_is_label rfl h1) (aCons_of (call1 F_is_name rfl h3) aNil_of)) (by show 2 ≤ 100000; decide), ?_, ?_⟩
  · unfold c_law_4
    show bnd (f2 neX _ _ _) toB = _
    rw [f2_of (x := tl a b) (y := tl a b) rfl (fLst_of (aCons_of (call1 F__law_is_label rfl h2) (aCons_of (call1 F__law_is_name rfl h4) aNil_of)) (by show 2 ≤ 100000; decide))]
    cases a <;> cases b <;> kernel_rfl
  · cases a <;> cases b <;> kernel_rfl
theorem body_F {a : Bool} (hp : F_is_name [.str p] = yes) (h1 : F_is_label [d] = some (.ok (.bl a))) (h2 : F__law_is_label [d] = some (.ok (.bl a))) (h3 : F_is_name [d] = no) (h4 : F__law_is_name [d] = no) :
    b_law_0 (g4 S T p o d) = some (.nx (g6 S T p o d a false rf0)) := by
  obtain ⟨v3, c4, c3⟩ := pre S T p o d h1 h2 h3 h4
  have q5 : fB (f2 ixD (fVar 5) (fC (.int 1))) (g5 S T p o d a false) = some (.ok false) := fB_of rfl
  have q6 : fB (f2 ixD (fVar 5) (fC (.int 1))) (g6 S T p o d a false rf0) = some (.ok false) := fB_of rfl
  have v2 : v_law_2 (g5 S T p o d a false) = some (.ok rf0) := by
    unfold v_law_2
    rw [fIf_F q5]
    kernel_rfl
  have v1 : v_law_1 (g6 S T p o d a false rf0) = some (.ok rf0) := by
    unfold v_law_1
    rw [fIf_F q6]
    kernel_rfl
  have v0 : v_law_0 (g6 S T p o d a false rf0) = some (.ok rf0) := by
    unfold v_law_0
    rw [fIf_F q6]
    kernel_rfl
  have c2 : c_law_2 (g6 S T p o d a false rf0) = some (.ok false) := by
    unfold c_law_2
    show bnd (f2 neX _ _ _) toB = _
    rw [f2_of (call3 F__law_told rfl rfl rfl (told0_F (labels_F h3))) (y := rf0) rfl]
    exact neR
  have c1 : c_law_1 (g6 S T p o d a false rf0) = some (.ok false) := by
    unfold c_law_1
    show bnd (f2 neX _ _ _) toB = _
    rw [f2_of (call3 F__law_told rfl rfl rfl (told1_F (within_2 hp h3))) (y := rf0) rfl]
    exact neR
  have c0 : c_law_0 (g6 S T p o d a false rf0) = some (.ok false) := by
    unfold c_law_0
    show bnd (f2 neX _ _ _) toB = _
    rw [f2_of (call3 F__law_told rfl rfl rfl (told1_F (within_1 h3))) (y := rf0) rfl]
    exact neR
  unfold b_law_0
  rw [fSeq_nx (ρ' := g5 S T p o d a false) (fSet_nx v3 rfl), fSeq_nx (ifS_skip c4), fSeq_nx (ifS_skip c3), fSeq_nx (ρ' := g6 S T p o d a false rf0) (fSet_nx v2 rfl), fSeq_nx (ifS_skip c2)]
  rw [fSeq_nx (ρ' := g6 S T p o d a false rf0) (fSet_nx v1 rfl), fSeq_nx (ifS_skip c1), fSeq_nx (ρ' := g6 S T p o d a false rf0) (fSet_nx v0 rfl)]
  exact ifS_skip c0
theorem body_T {x : Str} {v : Dv} {a : Bool} (hp : F_is_name [.str p] = yes) (ho : F_is_name [.str o] = yes) (hol : o.length ≤ 1000) (hxl : x.length ≤ 1000) (h1 : F_is_label [.str x] = some (.ok (.bl a))) (h2 : F__law_is_label [.str x] = some (.ok (.bl a))) (h3 : F_is_name [.str x] = yes) (h4 : F__law_is_name [.str x] = yes)
    (hs : splX x = some (.ok v)) (hv : bnd (neX v v) toB = some (.ok false)) : b_law_0 (g4 S T p o (.str x)) = some (.nx (g6 S T p o (.str x) a true (.bl (wB x o)))) := by
  obtain ⟨v3, c4, c3⟩ := pre S T p o (.str x) h1 h2 h3 h4
  have q5 : fB (f2 ixD (fVar 5) (fC (.int 1))) (g5 S T p o (.str x) a true) = some (.ok true) := fB_of rfl
  have q6 : ∀ w, fB (f2 ixD (fVar 5) (fC (.int 1))) (g6 S T p o (.str x) a true w) = some (.ok true) := fun w => fB_of rfl
  have v2 : v_law_2 (g5 S T p o (.str x) a true) = some (.ok v) := by
    unfold v_law_2
    rw [fIf_T q5]
    exact (fM_of rfl (aCons_of rfl aNil_of)).trans hs
  have v1 : v_law_1 (g6 S T p o (.str x) a true v) = some (.ok (.bl (wB p x))) := by
    unfold v_law_1
    rw [fIf_T (q6 v)]
    exact wOr rfl rfl hxl
  have v0 : v_law_0 (g6 S T p o (.str x) a true (.bl (wB p x))) = some (.ok (.bl (wB x o))) := by
    unfold v_law_0
    rw [fIf_T (q6 _)]
    exact wOr rfl rfl hol
  have c2 : c_law_2 (g6 S T p o (.str x) a true v) = some (.ok false) := by
    unfold c_law_2
    show bnd (f2 neX _ _ _) toB = _
    rw [f2_of (call3 F__law_told rfl rfl rfl (told0_T (labels_T h3 hs))) (y := v) rfl]
    exact hv
  have c1 : c_law_1 (g6 S T p o (.str x) a true (.bl (wB p x))) = some (.ok false) := by
    unfold c_law_1
    show bnd (f2 neX _ _ _) toB = _
    rw [f2_of (call3 F__law_told rfl rfl rfl (told1_T (within_T hp h3 (lies_ok hxl)))) (y := .bl (wB p x)) rfl]
    exact neS _
  have c0 : c_law_0 (g6 S T p o (.str x) a true (.bl (wB x o))) = some (.ok false) := by
    unfold c_law_0
    show bnd (f2 neX _ _ _) toB = _
    rw [f2_of (call3 F__law_told rfl rfl rfl (told1_T (within_T h3 ho (lies_ok hol)))) (y := .bl (wB x o)) rfl]
    exact neS _
  unfold b_law_0
  rw [fSeq_nx (ρ' := g5 S T p o (.str x) a true) (fSet_nx v3 rfl), fSeq_nx (ifS_skip c4), fSeq_nx (ifS_skip c3), fSeq_nx (ρ' := g6 S T p o (.str x) a true v) (fSet_nx v2 rfl), fSeq_nx (ifS_skip c2)]
  rw [fSeq_nx (ρ' := g6 S T p o (.str x) a true (.bl (wB p x))) (fSet_nx v1 rfl), fSeq_nx (ifS_skip c1), fSeq_nx (ρ' := g6 S T p o (.str x) a true (.bl (wB x o))) (fSet_nx v0 rfl)]
  exact ifS_skip c0
theorem body_good {x : Str} (hp : F_is_name [.str p] = yes) (ho : F_is_name [.str o] = yes) (hol : o.length ≤ 1000) (h : goodB x = true) : ∃ ρ, b_law_0 (g4 S T p o (.str x)) = some (.nx ρ) ∧ fgt [4, 5, 6] ρ = [S, some (.str p), some (.str o), T, none, none, none] := by
  unfold goodB at h
  rw [Bool.and_eq_true, Bool.and_eq_true] at h
  have hl : x.length ≤ 1000 := of_decide_eq_true h.1.1
  have hlab := h.1.2
  unfold labOk at hlab
  split at hlab
  · rename_i a b ha hb
    have e : a = b := by simpa using hlab
    subst e
    have hn := h.2
    unfold namOk at hn
    split at hn
    · rename_i n1 n2
      split at hn
      · rename_i v hv
        exact ⟨_, body_T S T p o hp ho hol hl ha hb n1 n2 hv (isF_eq hn), rfl⟩
      · cases hn
    · rename_i n1 n2
      exact ⟨_, body_F S T p o (.str x) hp ha hb n1 n2, rfl⟩
    · cases hn
  · cases hlab
theorem body_other (hp : F_is_name [.str p] = yes) (h : d = .non ∨ d = .int 1 ∨ d = .bl true ∨ d = .tup [.str p] ∨ d = .lst [.str p]) : ∃ ρ, b_law_0 (g4 S T p o d) = some (.nx ρ) ∧ fgt [4, 5, 6] ρ = [S, some (.str p), some (.str o), T, none, none, none] := by
  refine ⟨g6 S T p o d false false rf0, ?_, rfl⟩
  rcases h with rfl | rfl | rfl | rfl | rfl <;> exact body_F S T p o _ hp (by kernel_rfl) (by kernel_rfl) (by kernel_rfl) (by kernel_rfl)
end
/-- a spoilt text is one of its list -/
theorem spoilt_ok (ns : List Int) (hl : ns.length ≤ 63) (z : Int) {r : Str × List Str} (hr : r ∈ tab) : ∃ x ∈ r.2, F__law_spoilt [.scr ns, .int z, .str r.1] = some (.ok (.str x)) := by
  obtain ⟨d, d0, d1, hd⟩ := drawn_ok ns hl z ((r.1.length : Int) + 1) (by omega)
  obtain ⟨d2, e0, e1, hd2⟩ := drawn_ok ns hl (z + 1) 12 (by omega)
  obtain ⟨d3, f0, f1, hd3⟩ := drawn_ok ns hl (z + 2) 7 (by omega)
  obtain ⟨g, hg, hix⟩ := sign_ok e0 e1
  obtain ⟨k, rfl⟩ : ∃ k : Nat, d = (k : Int) := ⟨d.toNat, by omega⟩
  obtain ⟨j, rfl⟩ : ∃ j : Nat, d3 = (j : Int) := ⟨d3.toNat, by omega⟩
  have hk : k ∈ List.range (r.1.length + 1) := List.mem_range.mpr (by omega)
  have hsm : r.1.length ≤ 100000 := by
    have h2 := all_mem (show (tab.all fun r => decide (r.1.length ≤ 100000)) = true by kernel_rfl) hr
    exact of_decide_eq_true h2
  have ht := all_mem (all_mem (all_mem (sp_all (some (.scr ns)) (some (.int z))) hr) hk) hg
  unfold spOk at ht
  split at ht
  · rename_i l h1
    unfold inTab at ht
    split at ht
    · rename_i ds h2
      rw [Bool.and_eq_true] at ht
      have hlen : ds.length = 7 := of_decide_eq_true ht.2
      have hj : j < ds.length := by omega
      have hx := all_mem ht.1 (List.getElem_mem hj)
      split at hx
      · rename_i x hdx
        obtain ⟨y, hy, ey⟩ := List.any_eq_true.mp hx
        have ey' := seq_true ey
        subst ey'
        refine ⟨x, hy, run_rt ?_⟩
        show B__law_spoilt [some (.scr ns), some (.int z), some (.str r.1), none, none, none] = _
        have hlen1 : f2 addD (fB1 lenD (aCons (fVar 2) aNil)) (fC (.int 1)) [some (.scr ns), some (.int z), some (.str r.1), none, none, none] = some (.ok (.int ((r.1.length : Int) + 1))) := by
          have e1 : fB1 lenD (aCons (fVar 2) aNil) [some (.scr ns), some (.int z), some (.str r.1), none, none, none] = some (.ok (.int (r.1.length : Int))) := by
            rw [fB1_of (ds := [.str r.1]) (aCons_of rfl aNil_of)]
            show (if _ then _ else _) = _
            rw [if_pos hsm]
          rw [f2_of e1 (y := .int 1) rfl]
          rfl
        have a3 : spE3 [some (.scr ns), some (.int z), some (.str r.1), none, none, none] = some (.ok (.int k)) := call3 F__law_drawn rfl rfl hlen1 hd
        have a4 : spE4 [some (.scr ns), some (.int z), some (.str r.1), some (.int k), none, none] = some (.ok (.str g)) := (f2_of (x := .str (Str.ofString "az09-._A /*!")) rfl (call3 F__law_drawn rfl rfl rfl hd2)).trans hix
        unfold B__law_spoilt
        refine Eq.trans (fSeq_nx (ρ' := [some (.scr ns), some (.int z), some (.str r.1), some (.int k), none, none]) (fSet_nx a3 rfl)) ?_
        refine Eq.trans (fSeq_nx (ρ' := s4 (some (.scr ns)) (some (.int z)) r.1 k g) (fSet_nx a4 rfl)) ?_
        refine Eq.trans (fSeq_nx (ρ' := s5 (some (.scr ns)) (some (.int z)) r.1 k g l) (fSet_nx h1 rfl)) ?_
        refine Eq.trans (fSeq_nx (ρ' := s5 (some (.scr ns)) (some (.int z)) r.1 k g (.lst ds)) (fSet_nx h2 rfl)) ?_
        refine fRet_rt ?_
        rw [f2_of (x := .lst ds) rfl (call3 F__law_drawn rfl rfl rfl hd3)]
        show (match atD ds (j : Int) with | some d => some (Rs.ok d) | none => none) = _
        have hat : atD ds (j : Int) = some ds[j] := by
          unfold atD
          rw [if_pos (by omega)]
          show ds[((j : Int)).toNat]? = _
          rw [Int.toNat_natCast, List.getElem?_eq_getElem hj]
        rw [hat, hdx]
      · cases hx
    · cases ht
  · cases ht
section
variable (S : Option Dv) (p o : Str)
def y0 : Ev := [S, none, none, none, none, none, none]
def y1 : Ev := [S, some (.str p), none, none, none, none, none]
def y2 : Ev := [S, some (.str p), some (.str o), none, none, none, none]
def y3 (l : List Str) : Ev := [S, some (.str p), some (.str o), some (.lst (l.map Dv.str)), none, none, none]
end
theorem iSeqL_of {f : FnE} {ρ : Ev} {ds : List Dv} (h : f ρ = some (.ok (.lst ds))) : iSeq f ρ = some (.ok ds) := by unfold iSeq; rw [h]; rfl
theorem menu_yes : (menu.all fun o => (match F_is_name [.str o] with | some (.ok (.bl true)) => true | _ => false) && decide (o.length ≤ 1000)) = true := by kernel_rfl
theorem menu_name {o : Str} (h : o ∈ menu) : F_is_name [.str o] = yes ∧ o.length ≤ 1000 := by
  have h2 := all_mem menu_yes h
  rw [Bool.and_eq_true] at h2
  refine ⟨?_, of_decide_eq_true h2.2⟩
  have h3 := h2.1
  split at h3
  · rename_i q; exact q
  · cases h3
theorem r_all (S O T : Option Dv) : (menu.all fun p => match r_law_0 [S, some (.str p), O, T, none, none, none] with | some (.ok (.bl true)) => true | _ => false) = true := by kernel_rfl
theorem t14 : tab14 ∈ tab := by simp [tab]
theorem t15 : tab15 ∈ tab := by simp [tab]
theorem t16 : tab16 ∈ tab := by simp [tab]
theorem law_true (ns : List Int) (hl : ns.length ≤ 63) : F_law [.scr ns] = some (.ok (.bl true)) := by
  obtain ⟨p, hp, qp⟩ := name_ok ns hl 0
  obtain ⟨o, ho, qo⟩ := name_ok ns hl 1
  obtain ⟨r, hr, er⟩ := List.any_eq_true.mp (all_mem menu_tab hp)
  rw [Bool.and_eq_true] at er
  have er' := seq_true er.1
  subst er'
  obtain ⟨x0, k0, s0⟩ := spoilt_ok ns hl 10 hr
  obtain ⟨x1, k1, s1⟩ := spoilt_ok ns hl 15 hr
  obtain ⟨x2, k2, s2⟩ := spoilt_ok ns hl 20 hr
  obtain ⟨x3, k3, s3⟩ := spoilt_ok ns hl 25 hr
  obtain ⟨u4, k4, s4'⟩ := spoilt_ok ns hl 40 t14
  obtain ⟨u5, k5, s5'⟩ := spoilt_ok ns hl 50 t15
  obtain ⟨u6, k6, s6'⟩ := spoilt_ok ns hl 60 t16
  have pn := menu_name hp
  have on := menu_name ho
  have h8 : v_law_8 (y0 (some (.scr ns))) = some (.ok (.str r.1)) := call2 F__law_name rfl rfl qp
  have h7 : v_law_7 (y1 (some (.scr ns)) r.1) = some (.ok (.str o)) := call2 F__law_name rfl rfl qo
  have h6 : v_law_6 (y2 (some (.scr ns)) r.1 o) = some (.ok (.lst ([x0, x1, x2, x3, u4].map Dv.str))) := by
    have hc : (fComp [("_law_script", 0), ("_law_name_here", 1)] (fun ρ => bnd ((aCons (fC (.int 4)) aNil) ρ) rng1) none (fCall F__law_spoilt 3 (aCons (fVar 1) (aCons (f2 addD (fC (.int 10)) (f2 mulD (fC (.int 5)) (fVar 0))) (aCons (fVar 2) aNil))))) (y2 (some (.scr ns)) r.1 o) = some (.ok (.lst [.str x0, .str x1, .str x2, .str x3])) := by
      have hu : (fComp [("_law_script", 0), ("_law_name_here", 1)] (fun ρ => bnd ((aCons (fC (.int 4)) aNil) ρ) rng1) none (fCall F__law_spoilt 3 (aCons (fVar 1) (aCons (f2 addD (fC (.int 10)) (f2 mulD (fC (.int 5)) (fVar 0))) (aCons (fVar 2) aNil))))) (y2 (some (.scr ns)) r.1 o) = (match (match okO (F__law_spoilt [.scr ns, .int 10, .str r.1]) with
        | some (.ok y) => (match (match okO (F__law_spoilt [.scr ns, .int 15, .str r.1]) with
          | some (.ok y) => (match (match okO (F__law_spoilt [.scr ns, .int 20, .str r.1]) with
            | some (.ok y) => (match (match okO (F__law_spoilt [.scr ns, .int 25, .str r.1]) with
              | some (.ok y) => (some [y] : Option (List Dv))
              | _ => none) with | some ys => some (y :: ys) | none => none)
            | _ => none) with | some ys => some (y :: ys) | none => none)
          | _ => none) with | some ys => some (y :: ys) | none => none)
        | _ => none) with
      | some ys => if ys.length ≤ 100000 ∧ 4 ≤ 100000 then (some (.ok (.lst ys)) : Option (Rs Dv)) else none
      | none => none) := by kernel_rfl
      rw [hu, s0, s1, s2, s3]
      kernel_rfl
    unfold v_law_6
    rw [f2_of hc (fLst_of (ds := [.str u4]) (aCons_of (call3 F__law_spoilt rfl rfl rfl s4') aNil_of) (by show 1 ≤ 100000; decide))]
    rfl
  have h5 : v_law_5 (y3 (some (.scr ns)) r.1 o [x0, x1, x2, x3, u4]) = some (.ok (.lst ([x0, x1, x2, x3, u4, u5, u6].map Dv.str))) := by
    unfold v_law_5
    rw [f2_of (x := .lst ([x0, x1, x2, x3, u4].map Dv.str)) rfl (fLst_of (ds := [.str u5, .str u6]) (aCons_of (call3 F__law_spoilt rfl rfl rfl s5') (aCons_of (call3 F__law_spoilt rfl rfl rfl s6') aNil_of)) (by show 2 ≤ 100000; decide))]
    rfl
  have h4 : v_law_4 (y3 (some (.scr ns)) r.1 o [x0, x1, x2, x3, u4, u5, u6]) = some (.ok (.lst ([x0, x1, x2, x3, u4, u5, u6, r.1, Str.ofString "", Str.ofString ".", Str.ofString "a..b", Str.ofString "-"].map Dv.str))) := rfl
  have hL : loopF 4 [4, 5, 6] b_law_0 ([x0, x1, x2, x3, u4, u5, u6, r.1, Str.ofString "", Str.ofString ".", Str.ofString "a..b", Str.ofString "-"].map Dv.str ++ [.non, .int 1, .bl true, .tup [.str r.1], .lst [.str r.1], .str (Str.ofString "a.1"), .str (Str.ofString "1.a"), .str (Str.ofString "123456789"), .str (Str.ofString "a.b.c.d.e.f")])
      (y3 (some (.scr ns)) r.1 o [x0, x1, x2, x3, u4, u5, u6, r.1, Str.ofString "", Str.ofString ".", Str.ofString "a..b", Str.ofString "-"]) = some (.nx (y3 (some (.scr ns)) r.1 o [x0, x1, x2, x3, u4, u5, u6, r.1, Str.ofString "", Str.ofString ".", Str.ofString "a..b", Str.ofString "-"])) := by
    refine loopF_const (fun x hx => ?_) _ rfl
    have tb : ∀ {w : Str × List Str} {y : Str}, w ∈ tab → y ∈ w.2 → goodB y = true := fun hw hy => all_mem (all_mem good_all hw) hy
    have ex : ∀ {y : Str}, y ∈ extra → goodB y = true := fun hy => all_mem good_x hy
    obtain ⟨y, hy, ey⟩ := List.any_eq_true.mp er.2
    have gp : goodB r.1 = true := by rw [seq_true ey]; exact tb hr hy
    have key : (∃ u, x = .str u ∧ goodB u = true) ∨ (x = .non ∨ x = .int 1 ∨ x = .bl true ∨ x = .tup [.str r.1] ∨ x = .lst [.str r.1]) := by
      simp only [List.map_cons, List.map_nil, List.cons_append, List.nil_append, List.mem_cons, List.not_mem_nil, or_false] at hx
      rcases hx with rfl | rfl | rfl | rfl | rfl | rfl | rfl | rfl | rfl | rfl | rfl | rfl | rfl | rfl | rfl | rfl | rfl | rfl | rfl | rfl | rfl
      · exact .inl ⟨_, rfl, tb hr k0⟩
      · exact .inl ⟨_, rfl, tb hr k1⟩
      · exact .inl ⟨_, rfl, tb hr k2⟩
      · exact .inl ⟨_, rfl, tb hr k3⟩
      · exact .inl ⟨_, rfl, tb t14 k4⟩
      · exact .inl ⟨_, rfl, tb t15 k5⟩
      · exact .inl ⟨_, rfl, tb t16 k6⟩
      · exact .inl ⟨_, rfl, gp⟩
      · exact .inl ⟨_, rfl, ex (by simp [extra])⟩
      · exact .inl ⟨_, rfl, ex (by simp [extra])⟩
      · exact .inl ⟨_, rfl, ex (by simp [extra])⟩
      · exact .inl ⟨_, rfl, ex (by simp [extra])⟩
      · exact .inr (.inl rfl)
      · exact .inr (.inr (.inl rfl))
      · exact .inr (.inr (.inr (.inl rfl)))
      · exact .inr (.inr (.inr (.inr (.inl rfl))))
      · exact .inr (.inr (.inr (.inr (.inr rfl))))
      · exact .inl ⟨_, rfl, ex (by simp [extra])⟩
      · exact .inl ⟨_, rfl, ex (by simp [extra])⟩
      · exact .inl ⟨_, rfl, ex (by simp [extra])⟩
      · exact .inl ⟨_, rfl, ex (by simp [extra])⟩
    rcases key with ⟨u, rfl, hu⟩ | hz
    · exact body_good (some (.scr ns)) _ r.1 o pn.1 on.1 on.2 hu
    · exact body_other (some (.scr ns)) _ r.1 o x pn.1 hz
  refine run_rt (d := .bl true) ?_
  show B_law (y0 (some (.scr ns))) = _
  unfold B_law
  rw [fSeq_nx (ρ' := y1 (some (.scr ns)) r.1) (fSet_nx h8 rfl)]
  rw [fSeq_nx (ρ' := y2 (some (.scr ns)) r.1 o) (fSet_nx h7 rfl)]
  rw [fSeq_nx (ρ' := y3 (some (.scr ns)) r.1 o [x0, x1, x2, x3, u4]) (fSet_nx h6 rfl)]
  rw [fSeq_nx (ρ' := y3 (some (.scr ns)) r.1 o [x0, x1, x2, x3, u4, u5, u6]) (fSet_nx h5 rfl)]
  rw [fSeq_nx (ρ' := y3 (some (.scr ns)) r.1 o [x0, x1, x2, x3, u4, u5, u6, r.1, Str.ofString "", Str.ofString ".", Str.ofString "a..b", Str.ofString "-"]) (fSet_nx h4 rfl)]
  rw [fSeq_nx (ρ' := y3 (some (.scr ns)) r.1 o [x0, x1, x2, x3, u4, u5, u6, r.1, Str.ofString "", Str.ofString ".", Str.ofString "a..b", Str.ofString "-"]) ((fFor_of (iSeqL_of (ρ := y3 (some (.scr ns)) r.1 o [x0, x1, x2, x3, u4, u5, u6, r.1, Str.ofString "", Str.ofString ".", Str.ofString "a..b", Str.ofString "-"]) rfl)).trans hL)]
  refine fRet_rt ?_
  have hrl := all_mem (r_all (some (.scr ns)) (some (.str o)) (some (.lst ([x0, x1, x2, x3, u4, u5, u6, r.1, Str.ofString "", Str.ofString ".", Str.ofString "a..b", Str.ofString "-"].map Dv.str)))) hp
  split at hrl
  · rename_i q; exact q
  · cases hrl
end G
namespace G
open PySem PySem.Spec PyProof.Rows L2 FD
theorem walk {l : PySem.W.OpenLaw} {q : Program} {loose : List Str} {XP : (Str → Option Value) → Heap → Prop} {YP : World → Heap → Prop} {d : DefRec} {K : Params → PySem.W.Frag} (hn : l.most = some 63) (hdf : d.params.defaults = [])
    (hY : ∀ (w : World) (h : Heap), YP w h → (K w.params).In h)
    (F : ∀ (w : World) (mg : Str → Option Value) (fa : Addr) (h : Heap), (K w.params).In h → h.Ns mainGlobals mg → mg d.name = some (.ref fa) →
      ∃ fd : FuncData, (∀ (s : Shared) (u : Value), BindsTo s fd ⟨[u], []⟩ [("_law_script", u)]) ∧ ∀ base : Heap, (K w.params).In base → base.Ns mainGlobals mg → FnOk l.prog w (K w.params) mg base CX0 7 fa fd ["_law_script"] (spF (K w.params) F_law 1)) :
    PySem.W.WalkO q loose XP YP l.row.toRowW d [] (fun f vs => PySem.call f vs) :=
  L2.walk_of (n := 63) (k := 7) (x := "_law_script") (CX := fun _ => CX0) (sp := fun w => spF (K w.params) F_law 1) hn (by decide) hdf ⟨rfl, by decide, by decide⟩ hY F
    (fun _ _ a ns hl _ hS => ⟨[.scr ns], ⟨.ref a, [], rfl, ⟨a, rfl, hS⟩, rfl⟩, rfl, by rw [law_true ns hl]; exact fun v H' _ r => r⟩) fun _ _ _ _ _ z => z
end G
open PySem PySem.W PyProof.Rows
set_option maxRecDepth 100000 in
set_option maxHeartbeats 0 in
theorem PySem.Challenge.cw_notejar_k01_names_holds : PySem.Challenge.rw_notejar_k01_names.Holds := by
  w_on; o_law; k_head; (case hw => w_witness2)
  k_fill
  refine G.walk (l := PySem.Challenge.rw_notejar_k01_names) rfl rfl (fun w h Y => PySem.W.kIn_of Y) ?F
  case F =>
    intro w mg fa h KX hG hmg
    refine' G.all_mk KX hG hmg ?a1 ?l1 ?c1 ?k1 ?a2 ?l2 ?c2 ?k2 ?a3 ?l3 ?c3 ?k3 ?a4 ?l4 ?c4 ?k4 ?a5 ?l5 ?c5 ?k5 ?a6 ?l6 ?c6 ?k6 ?a7 ?l7 ?c7 ?k7 ?a8 ?l8 ?c8 ?k8 ?a9 ?l9 ?c9 ?k9 ?a10 ?l10 ?c10 ?k10 ?a11 ?l11 ?c11 ?k11 ?a12 ?l12 ?c12 ?k12 ?a13 ?l13 ?c13 ?k13 ?a14 ?l14 ?c14 ?k14 ?a15 ?l15 ?c15 ?k15 ?a16 ?l16 ?c16 ?k16 ?z1 ?z2 ?z3 ?z4 ?z5 ?z6 ?z7 ?z8 ?g1 ?g2 ?g3 ?g4 ?n0 ?n1 ?n2 ?n3 ?n4 ?n5 ?n6 ?nJ ?xb
    (case a1 => k_is)
    (case l1 => k_is)
    (case c1 => k_is)
    (case k1 => k_is)
    (case a2 => k_is)
    (case l2 => k_is)
    (case c2 => k_is)
    (case k2 => k_is)
    (case a3 => k_is)
    (case l3 => k_is)
    (case c3 => k_is)
    (case k3 => k_is)
    (case a4 => k_is)
    (case l4 => k_is)
    (case c4 => k_is)
    (case k4 => k_is)
    (case a5 => k_is)
    (case l5 => k_is)
    (case c5 => k_is)
    (case k5 => k_is)
    (case a6 => k_is)
    (case l6 => k_is)
    (case c6 => k_is)
    (case k6 => k_is)
    (case a7 => k_is)
    (case l7 => k_is)
    (case c7 => k_is)
    (case k7 => k_is)
    (case a8 => k_is)
    (case l8 => k_is)
    (case c8 => k_is)
    (case k8 => k_is)
    (case a9 => k_is)
    (case l9 => k_is)
    (case c9 => k_is)
    (case k9 => k_is)
    (case a10 => k_is)
    (case l10 => k_is)
    (case c10 => k_is)
    (case k10 => k_is)
    (case a11 => k_is)
    (case l11 => k_is)
    (case c11 => k_is)
    (case k11 => k_is)
    (case a12 => k_is)
    (case l12 => k_is)
    (case c12 => k_is)
    (case k12 => k_is)
    (case a13 => k_is)
    (case l13 => k_is)
    (case c13 => k_is)
    (case k13 => k_is)
    (case a14 => k_is)
    (case l14 => k_is)
    (case c14 => k_is)
    (case k14 => k_is)
    (case a15 => k_is)
    (case l15 => k_is)
    (case c15 => k_is)
    (case k15 => k_is)
    (case a16 => k_is)
    (case l16 => k_is)
    (case c16 => k_is)
    (case k16 => k_is)
    (case z1 => k_is)
    (case z2 => k_is)
    (case z3 => k_is)
    (case z4 => k_is)
    (case z5 => k_is)
    (case z6 => k_is)
    (case z7 => k_is)
    (case z8 => k_is)
    (case g1 => k_is)
    (case g2 => k_is)
    (case g3 => k_is)
    (case g4 => k_is)
    (case n0 => k_is)
    (case n1 => k_is)
    (case n2 => k_is)
    (case n3 => k_is)
    (case n4 => k_is)
    (case n5 => k_is)
    (case n6 => k_is)
    (case nJ => k_is)
    (case xb => kernel_rfl)
#print axioms PySem.Challenge.cw_notejar_k01_names_holds
