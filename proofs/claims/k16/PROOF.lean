import PyProof.Rows.All
import Wide.All
import OpenK.AllK
import Wide.FinOn
import Lean
import PyProof.EqAt
import PyProof.EqKinds
import PyProof.TupleCall
import PySem.Challenge.RW_throng_k16_rows_by_fields
set_option Elab.async false
set_option linter.all false
set_option maxRecDepth 100000
/-! THE HAND LAYER, for ints, bools, texts, own classes, LISTS and tuples (index, slices, in, append, pop ..), calls, loops. Paste it whole ahead of your own text; what your proof does not reach may be deleted. -/
namespace L2
open PySem PySem.Spec PyProof.Rows

/-- a key: an int or a str -/
abbrev Key := Sum Int Str
def keyIs : Key → Value → Bool
  | .inl k, v => Value.isInt k v
  | .inr x, v => Value.isStrOf x v
def keyH (w : World) : Key → Int
  | .inl k => hashInt k
  | .inr x => hashStr w x
theorem keyIs_shape : ∀ {k : Key} {v : Value}, keyIs k v = true → (∃ i t, k = Sum.inl i ∧ v = Value.int i t) ∨ (∃ x t, k = Sum.inr x ∧ v = Value.str x t)
  | .inl i, v, h => by
    obtain ⟨t, e⟩ := Value.isInt_shape (k := i) (v := v) h
    exact .inl ⟨i, t, rfl, e⟩
  | .inr x, v, h => by
    obtain ⟨t, e⟩ := Value.isStrOf_shape (x := x) (v := v) h
    exact .inr ⟨x, t, rfl, e⟩
theorem keyIs_int (i : Int) (t : Tok) : keyIs (.inl i) (.int i t) = true := by simp [keyIs, Value.isInt]
theorem keyIs_str (x : Str) (t : Tok) : keyIs (.inr x) (.str x t) = true := by simp [keyIs, Value.isStrOf]
theorem key_ll (a b : Int) : decide ((Sum.inl a : Key) = Sum.inl b) = (a == b) := by
  by_cases e : a = b
  · subst e; simp
  · have h : ¬ (Sum.inl a : Key) = Sum.inl b := fun q => e (Sum.inl.inj q)
    rw [decide_eq_false h]
    exact (beq_eq_false_iff_ne.mpr e).symm
theorem key_rr (a b : Str) : decide ((Sum.inr a : Key) = Sum.inr b) = decide (a = b) := by
  by_cases e : a = b
  · subst e; simp
  · have h : ¬ (Sum.inr a : Key) = Sum.inr b := fun q => e (Sum.inr.inj q)
    rw [decide_eq_false h, decide_eq_false e]
theorem key_lr (a : Int) (b : Str) : decide ((Sum.inl a : Key) = Sum.inr b) = false := decide_eq_false (fun q => nomatch q)
theorem key_rl (a : Str) (b : Int) : decide ((Sum.inr a : Key) = Sum.inl b) = false := decide_eq_false (fun q => nomatch q)

def mixKind (prog : Program) (w : World) : PySem.KeyKind prog w Key where
  is := keyIs
  hash := keyH w
  inj := fun v a b ha hb => by
    rcases keyIs_shape ha with ⟨i, t, rfl, rfl⟩ | ⟨x, t, rfl, rfl⟩
    · rcases keyIs_shape hb with ⟨j, u, rfl, e⟩ | ⟨y, u, rfl, e⟩
      · injection e with e1 _; rw [e1]
      · exact nomatch e
    · rcases keyIs_shape hb with ⟨j, u, rfl, e⟩ | ⟨y, u, rfl, e⟩
      · exact nomatch e
      · injection e with e1 _; rw [e1]
  byValue := fun k v h => by
    rcases keyIs_shape h with ⟨i, t, rfl, rfl⟩ | ⟨x, t, rfl, rfl⟩ <;> rfl
  pyHash := fun hv h => by
    rcases keyIs_shape hv with ⟨i, t, rfl, rfl⟩ | ⟨x, t, rfl, rfl⟩
    · exact wpAny_pyHash_int h
    · exact wpAny_pyHash_str h
  eqBool := fun hu hv h => by
    rcases keyIs_shape hu with ⟨i, t, rfl, rfl⟩ | ⟨x, t, rfl, rfl⟩
    · rcases keyIs_shape hv with ⟨j, u, rfl, rfl⟩ | ⟨y, u, rfl, rfl⟩
      · rw [key_ll] at h; exact wpAny_eqBool_int h
      · rw [key_lr] at h; exact SeqAt.EqAt.int_str i t y u _ _ _ _ h
    · rcases keyIs_shape hv with ⟨j, u, rfl, rfl⟩ | ⟨y, u, rfl, rfl⟩
      · rw [key_rl] at h; exact SeqAt.EqAt.str_int x t j u _ _ _ _ h
      · rw [key_rr] at h; exact wpAny_eqBool_str h
  «strs» := fun k x t v h => by
    rcases keyIs_shape h with ⟨i, u, rfl, e⟩ | ⟨y, u, rfl, e⟩
    · exact nomatch e
    · injection e with e1 _
      subst e1
      cases v <;> rfl

theorem mixKind_int (prog : Program) (w : World) (i : Int) (t : Tok) : (mixKind prog w).is (.inl i) (.int i t) = true := keyIs_int i t
theorem mixKind_str (prog : Program) (w : World) (x : Str) (t : Tok) : (mixKind prog w).is (.inr x) (.str x t) = true := keyIs_str x t
end L2

namespace L2
open PySem PySem.Spec PyProof.Rows

/-- a value, without the heap -/
inductive V where
  | non | bl (b : Bool) | int (i : Int) | str (x : Str) | byt (b : Array UInt8) | flt (b : UInt64) | ref (a : Addr) | ty (n : String)
  deriving DecidableEq

def RelV : V → Value → Prop
  | .non, u => u = Value.none
  | .bl b, u => u = Value.bool b
  | .int i, u => ∃ t, u = Value.int i t
  | .str x, u => ∃ t, u = Value.str x t
  | .byt b, u => ∃ t, u = Value.bytes b t
  | .flt b, u => ∃ t, u = Value.float b t
  | .ref a, u => u = Value.ref a
  | .ty n, u => u = Value.type n

abbrev Vals : List V → List Value → Prop := Paired RelV
theorem Vals.length {xs : List V} {us : List Value} (r : Vals xs us) : xs.length = us.length := Paired.length r
theorem Vals.get : ∀ {xs : List V} {us : List Value} {i : Nat} {x : V}, Vals xs us → xs[i]? = some x → ∃ u, us[i]? = some u ∧ RelV x u
  | _, _, _, _, .nil, e => by simp at e
  | _, _, 0, _, .cons r _, e => by simp at e; subst e; exact ⟨_, rfl, r⟩
  | _, _, i + 1, x, .cons _ t, e => by
    obtain ⟨u, h1, h2⟩ := Vals.get (i := i) (x := x) t (by simpa using e)
    exact ⟨u, by simpa using h1, h2⟩
theorem Vals.set {x : V} {u : Value} (r : RelV x u) : ∀ {xs : List V} {us : List Value} (i : Nat), Vals xs us → Vals (xs.set i x) (us.set i u)
  | _, _, _, .nil => .nil
  | _, _, 0, .cons _ t => .cons r t
  | _, _, i + 1, .cons q t => .cons q (Vals.set r i t)
theorem Vals.append : ∀ {xs ys : List V} {us ws : List Value}, Vals xs us → Vals ys ws → Vals (xs ++ ys) (us ++ ws)
  | _, _, _, _, .nil, s => s
  | _, _, _, _, .cons r t, s => .cons r (Vals.append t s)
theorem Vals.take : ∀ {xs : List V} {us : List Value} (n : Nat), Vals xs us → Vals (xs.take n) (us.take n)
  | _, _, 0, _ => .nil
  | _, _, _ + 1, .nil => .nil
  | _, _, n + 1, .cons r t => .cons r (Vals.take n t)
theorem Vals.drop : ∀ {xs : List V} {us : List Value} (n : Nat), Vals xs us → Vals (xs.drop n) (us.drop n)
  | _, _, 0, r => r
  | _, _, _ + 1, .nil => .nil
  | _, _, n + 1, .cons _ t => Vals.drop n t
def RelO : Option V → Option Value → Prop
  | some v, some u => RelV v u
  | none, none => True
  | _, _ => False
def KV {κ : Type} : List (κ × V) → List (κ × Value) → Prop := Paired fun (p : κ × V) (q : κ × Value) => p.1 = q.1 ∧ RelV p.2 q.2

/-- a key of a dict (00_mix): an int or a text -/
def kV : Key → V
  | .inl i => .int i
  | .inr x => .str x

/-- what stands at a tracked address -/
inductive HO where
  /-- a list -/
  | lst (xs : List V)
  /-- a tuple (never changes) -/
  | tup (xs : List V)
  /-- a dict whose keys are ints and texts; one whose keys are tuples of ints and texts (the empty one is both) -/
  | dK (kvs : List (Key × V)) | dT (kvs : List (List Key × V))
  /-- a set of ints: its members, its size -/
  | set (S : Int → Bool) (n : Nat)
  /-- an instance of the class at C, its dict at dx, its attributes -/
  | ins (C dx : Addr) (fs : List (Str × V))
  /-- the dict of the instance at x -/
  | own (x : Addr)
  /-- the dict of an exception -/
  | xd (fs : List (Str × V))
  /-- a bound method, f of x -/
  | met (f x : Addr)
  /-- a range object lo, lo + 1, .. below hi -/
  | rng (lo hi : Int)
  /-- a thing that is known to the object (the script; a dict while a loop walks it): read, never written while it is so -/
  | frz (o : Obj) (u : HO)
  /-- a code object's table -/
  | tbl (ps : Array Value)
  /-- any other thing, by what is true of its one object (a def of one's own: SetO a S n := HO.ext fun h => ..) -/
  | ext (φ : Heap → Prop)

abbrev Hp := Addr → Option HO
def upd (H : Hp) (a : Addr) (o : HO) : Hp := fun b => if b = a then some o else H b
theorem upd_same {H : Hp} {a : Addr} {o : HO} : upd H a o a = some o := by unfold upd; rw [if_pos rfl]
theorem upd_ne {H : Hp} {a b : Addr} {o : HO} (h : b ≠ a) : upd H a o b = H b := by unfold upd; rw [if_neg h]
/-- two objects of different content stand apart -/
theorem ne_of {H : Hp} {a b : Addr} {o u : HO} (h : H a = some o) (h' : H b = some u) (d : o ≠ u) : a ≠ b := by
  intro e; subst e; rw [h] at h'; exact d (Option.some.inj h')
theorem ne_of_none {H : Hp} {a b : Addr} {o : HO} (h : H a = some o) (h' : H b = none) : a ≠ b := by
  intro e; subst e; rw [h] at h'; cases h'

section
variable (P : Program) (w : World)
def ObjOk (H : Hp) (h : Heap) (a : Addr) : HO → Prop
  | .lst xs => xs.length ≤ sizeLine ∧ ∃ (its : List Value) (n : Nat), Vals xs its ∧ h.get? a = some { cls := .type "list", data := .seq its.toArray n }
  | .tup xs => xs.length ≤ sizeLine ∧ ∃ its : List Value, Vals xs its ∧ IsTup h a its.toArray
  | .dK kvs => kvs.length ≤ sizeLine ∧ (a == sysModules) = false ∧ ∃ vs, KV kvs vs ∧ h.DictOf (mixKind P w) a vs
  | .dT kvs => kvs.length ≤ sizeLine ∧ (a == sysModules) = false ∧ ∃ xs : List (List Key × Addr × Value),
      Paired (fun (p : List Key × V) (q : List Key × Addr × Value) => p.1 = q.1 ∧ H q.2.1 = some (.tup (p.1.map kV)) ∧ RelV p.2 q.2.2) kvs xs ∧
      ∃ o es ep, h.get? a = some o ∧ o.ExactDict ∧ o.data = .dict es ep ∧ es.toList = xs.map (entryOfKey (tupleKind (mixKind P w))) ∧ (xs.map (·.1)).Nodup
  | .set S n => h.SetOf (intKind P w) a S n
  | .ins C dx fs => H dx = some (.own a) ∧ fs.length ≤ 1000 ∧ dx ≠ a ∧ h.get? a = some (PySem.W.instObj C dx) ∧
      ∃ mA, h.Ns1 dx mA ∧ (∀ f, RelO (fs.lookup f) (mA f)) ∧ PySem.Within mA (fs.map (·.1))
  | .own _ => ∃ o, h.get? a = some o
  | .xd fs => ∃ mA, h.Ns1 a mA ∧ ∀ f, RelO (fs.lookup f) (mA f)
  | .rng lo hi => ∃ t u v, h.get? a = some { cls := .type "range", data := .fields #[.int lo t, .int hi u, .int 1 v] }
  | .frz o u => h.get? a = some o ∧ ObjOk H h a u
  | .tbl ps => h.get? a = some { cls := .none, data := .fields ps }
  | .met f x => h.get? a = some (PySem.W.methodObj (.ref f) (.ref x))
  | .ext φ => φ h ∧ (∃ o, h.get? a = some o) ∧ ∀ h1 h2 : Heap, φ h1 → (∀ o, h1.get? a = some o → h2.get? a = some o) → φ h2
/-- the abstract heap is held -/
def HOk (H : Hp) (h : Heap) : Prop := ∀ a o, H a = some o → ObjOk P w H h a o
end

section
variable {P : Program} {w : World} {H H' : Hp} {h h' : Heap} {a : Addr} {o : HO}
theorem ObjOk.lt (x : ObjOk P w H h a o) : a < h.objs.size := by
  cases o with
  | lst xs => obtain ⟨_, _, _, _, e⟩ := x; exact Heap.lt_size e
  | tup xs => obtain ⟨_, _, _, p⟩ := x; exact p.lt
  | dK kvs => obtain ⟨_, _, _, _, o, _, _, e, _⟩ := x; exact Heap.lt_size e
  | dT kvs => obtain ⟨_, _, _, _, o, _, _, e, _⟩ := x; exact Heap.lt_size e
  | set S n => obtain ⟨o, _, _, _, e, _⟩ := x; exact Heap.lt_size e
  | ins C dx fs => obtain ⟨_, _, _, e, _⟩ := x; exact Heap.lt_size e
  | own y => obtain ⟨_, e⟩ := x; exact Heap.lt_size e
  | xd fs => obtain ⟨_, ⟨_, _, _, e, _⟩, _⟩ := x; exact Heap.lt_size e
  | rng lo hi => obtain ⟨_, _, _, e⟩ := x; exact Heap.lt_size e
  | frz ob u => obtain ⟨e, _⟩ := x; exact Heap.lt_size e
  | tbl ps => exact Heap.lt_size (show h.get? a = some _ from x)
  | met f y => exact Heap.lt_size (show h.get? a = some _ from x)
  | ext φ => obtain ⟨_, ⟨_, e⟩, _⟩ := x; exact Heap.lt_size e
theorem Paired.mapP {α β : Type} {F G : α → β → Prop} : ∀ {l₁ : List α} {l₂ : List β}, Paired F l₁ l₂ → (∀ a b, F a b → G a b) → Paired G l₁ l₂
  | _, _, .nil, _ => .nil
  | _, _, .cons r t, f => .cons (f _ _ r) (Paired.mapP t f)
theorem Paired.imp' {α β : Type} {F G : α → β → Prop} (f : ∀ a b, F a b → G a b) {l₁ : List α} {l₂ : List β} (r : Paired F l₁ l₂) : Paired G l₁ l₂ := Paired.mapP r f
/-- what an object's description leans on: its own object, its own dict, the tuples -/
theorem ObjOk.stay (x : ObjOk P w H h a o) (k : ∀ b u, (b = a ∨ H b = some (.own a)) → h.get? b = some u → h'.get? b = some u)
    (ho : ∀ b, H b = some (.own a) → H' b = some (.own a)) (ht : ∀ b xs, H b = some (.tup xs) → H' b = some (.tup xs)) : ObjOk P w H' h' a o := by
  induction o with
  | lst xs => obtain ⟨z, its, n, r, e⟩ := x; exact ⟨z, its, n, r, k _ _ (.inl rfl) e⟩
  | tup xs => obtain ⟨z, its, r, ob, e, c⟩ := x; exact ⟨z, its, r, ob, k _ _ (.inl rfl) e, c⟩
  | dK kvs => obtain ⟨z, y, vs, r, ob, es, ep, e, c⟩ := x; exact ⟨z, y, vs, r, ob, es, ep, k _ _ (.inl rfl) e, c⟩
  | dT kvs =>
    obtain ⟨z, y, xs, r, ob, es, ep, e, c⟩ := x
    exact ⟨z, y, xs, Paired.mapP r fun p q z => ⟨z.1, ht _ _ z.2.1, z.2.2⟩, ob, es, ep, k _ _ (.inl rfl) e, c⟩
  | set S n => obtain ⟨ob, es, ep, t, e, c⟩ := x; exact ⟨ob, es, ep, t, k _ _ (.inl rfl) e, c⟩
  | ins C dx fs =>
    obtain ⟨d, z, ne, e, mA, ⟨od, es, ep, e2, c⟩, r⟩ := x
    exact ⟨ho _ d, z, ne, k _ _ (.inl rfl) e, mA, ⟨od, es, ep, k _ _ (.inr d) e2, c⟩, r⟩
  | own y => obtain ⟨ob, e⟩ := x; exact ⟨ob, k _ _ (.inl rfl) e⟩
  | xd fs => obtain ⟨mA, ⟨od, es, ep, e, c⟩, r⟩ := x; exact ⟨mA, ⟨od, es, ep, k _ _ (.inl rfl) e, c⟩, r⟩
  | rng lo hi => obtain ⟨t, u, v, e⟩ := x; exact ⟨t, u, v, k _ _ (.inl rfl) e⟩
  | frz ob u ih => obtain ⟨e, q⟩ := x; exact ⟨k _ _ (.inl rfl) e, ih q⟩
  | tbl ps =>
    have e : h.get? a = some { cls := .none, data := .fields ps } := x
    show h'.get? a = some { cls := .none, data := .fields ps }
    exact k a _ (.inl rfl) e
  | met f y =>
    have e : h.get? a = some (PySem.W.methodObj (.ref f) (.ref y)) := x
    show h'.get? a = some (PySem.W.methodObj (.ref f) (.ref y))
    exact k a _ (.inl rfl) e
  | ext φ => obtain ⟨p, ⟨o, e⟩, st⟩ := x; exact ⟨st _ _ p fun o q => k _ _ (.inl rfl) q, ⟨o, k _ _ (.inl rfl) e⟩, st⟩
theorem HOk.lt (x : HOk P w H h) (e : H a = some o) : a < h.objs.size := (x a o e).lt
theorem HOk.fresh (x : HOk P w H h) (e : h.objs.size ≤ a) : H a = none := by
  cases q : H a with
  | none => rfl
  | some u => exact absurd (Nat.lt_of_lt_of_le (x.lt q) e) (Nat.lt_irrefl _)
/-- every object of the heap is kept -/
theorem HOk.kept (x : HOk P w H h) (k : ∀ b u, h.get? b = some u → h'.get? b = some u) : HOk P w H h' := fun a o e =>
  (x a o e).stay (fun b u _ q => k b u q) (fun _ q => q) fun _ _ q => q
/-- a new object is laid and tracked -/
theorem HOk.laid (x : HOk P w H h) (k : ∀ b u, h.get? b = some u → h'.get? b = some u) (hp : h.objs.size ≤ a) (new : ObjOk P w (upd H a o) h' a o) : HOk P w (upd H a o) h' := fun b u e => by
  have hn := x.fresh hp
  by_cases hb : b = a
  · subst hb; rw [upd_same] at e; cases e; exact new
  · rw [upd_ne hb] at e
    exact (x b u e).stay (fun c v _ q => k c v q) (fun c q => by rw [upd_ne (ne_of_none q hn)]; exact q) fun c xs q => by rw [upd_ne (ne_of_none q hn)]; exact q
end

/-- what may be read as u: it is u, or a known u -/
def Rd (H : Hp) (a : Addr) (u : HO) : Prop := H a = some u ∨ ∃ o, H a = some (.frz o u)
theorem Rd.of {H : Hp} {a : Addr} {u : HO} (h : H a = some u) : Rd H a u := .inl h
theorem Rd.ok {P : Program} {w : World} {H : Hp} {h : Heap} {a : Addr} {u : HO} (r : Rd H a u) (x : HOk P w H h) : ObjOk P w H h a u := by
  rcases r with r | ⟨o, r⟩
  · exact x a u r
  · obtain ⟨_, q⟩ := x a _ r
    exact q
/-- what may be written -/
def Mut : Option HO → Prop
  | some (.lst _) => True
  | some (.dK _) => True
  | some (.dT _) => True
  | some (.set _ _) => True
  | some (.ins _ _ _) => True
  | some (.ext _) => True
  | _ => False
section
variable {P : Program} {w : World} {H : Hp} {h h' : Heap} {x e : Addr} {o' : HO}
/-- the object at e is changed: x itself, or the dict of the instance x -/
theorem HOk.write (ok : HOk P w H h) (mu : Mut (H x)) (he : e = x ∨ H e = some (.own x)) (k : ∀ b u, b ≠ e → h.get? b = some u → h'.get? b = some u) (heo : ∃ u, h'.get? e = some u)
    (new : ObjOk P w (upd H x o') h' x o') : HOk P w (upd H x o') h' := fun b u q => by
  have nown : ∀ c y, H c = some (.own y) → c ≠ x := fun c y r z => by subst z; rw [r] at mu; exact mu
  have ntup : ∀ c xs, H c = some (.tup xs) → c ≠ x := fun c xs r z => by subst z; rw [r] at mu; exact mu
  by_cases hb : b = x
  · subst hb; rw [upd_same] at q; cases q; exact new
  · rw [upd_ne hb] at q
    by_cases hbe : b = e
    · have q' : H b = some (.own x) := by
        rcases he with z | z
        · exact absurd (hbe.trans z) hb
        · rw [hbe]; exact z
      rw [q] at q'; cases q'
      obtain ⟨v, hv⟩ := heo
      exact ⟨v, by rw [hbe]; exact hv⟩
    · refine (ok b u q).stay (fun c v hc r => k c v ?_ r) (fun c r => by rw [upd_ne (nown c b r)]; exact r) fun c xs r => by rw [upd_ne (ntup c xs r)]; exact r
      rcases hc with rfl | hc
      · exact hbe
      · rintro rfl
        rcases he with z | z
        · exact nown c b hc z
        · rw [hc] at z; cases z; exact hb rfl
end

/-! ### kept unless tracked; of the frames at fs (the callers') the slots may change (an exception that passes writes there); of the records at ex (iterators) nothing is said -/
structure Un (fs ex : List Addr) (H H' : Hp) (h h' : Heap) : Prop where
  keep : ∀ b o, h.get? b = some o → H b = none → b ∉ fs → b ∉ ex → h'.get? b = some o
  slot : ∀ b o, h.get? b = some o → H b = none → b ∈ fs → b ∉ ex → ∃ sl, h'.get? b = some { o with slots := sl }
  free : ∀ b o, h.get? b = some o → H b = none → b ∉ ex → H' b = none
  there : ∀ b o, h.get? b = some o → b ∉ ex → ∃ o', h'.get? b = some o'
  tups : ∀ b xs, H b = some (.tup xs) → H' b = some (.tup xs)
  frzs : ∀ b o u, H b = some (.frz o u) → H' b = some (.frz o u)
  tbls : ∀ b ps, H b = some (.tbl ps) → ∃ more, H' b = some (.tbl (ps ++ more))
section
variable {fs fs' ex ex' : List Addr} {H H1 H2 : Hp} {h h1 h2 h' : Heap} {a x e : Addr} {o : HO}
theorem Un.any (u : Un fs ex H H1 h h1) {b : Addr} {ob : Obj} (q : h.get? b = some ob) (n : H b = none) (hx : b ∉ ex) : ∃ sl, h1.get? b = some { ob with slots := sl } := by
  by_cases hb : b ∈ fs
  · exact u.slot b ob q n hb hx
  · exact ⟨ob.slots, u.keep b ob q n hb hx⟩
theorem Un.trans (a : Un fs ex H H1 h h1) (b : Un fs ex H1 H2 h1 h2) : Un fs ex H H2 h h2 where
  keep := fun c ob q n hc hx => b.keep c ob (a.keep c ob q n hc hx) (a.free c ob q n hx) hc hx
  slot := fun c ob q n hc hx => by
    obtain ⟨sl, e1⟩ := a.slot c ob q n hc hx
    obtain ⟨sl', e2⟩ := b.slot c _ e1 (a.free c ob q n hx) hc hx
    exact ⟨sl', e2⟩
  free := fun c ob q n hx => by
    obtain ⟨o', e1⟩ := a.there c ob q hx
    exact b.free c o' e1 (a.free c ob q n hx) hx
  there := fun c ob q hx => by
    obtain ⟨o', e1⟩ := a.there c ob q hx
    exact b.there c o' e1 hx
  tups := fun c xs q => b.tups c xs (a.tups c xs q)
  frzs := fun c ob xs q => b.frzs c ob xs (a.frzs c ob xs q)
  tbls := fun c ps q => by
    obtain ⟨m1, e1⟩ := a.tbls c ps q
    obtain ⟨m2, e2⟩ := b.tbls c _ e1
    exact ⟨m1 ++ m2, by rw [e2, Array.append_assoc]⟩
theorem Un.kept (k : ∀ b u, h.get? b = some u → h'.get? b = some u) : Un fs ex H H h h' :=
  ⟨fun b ob q _ _ _ => k b ob q, fun b ob q _ _ _ => ⟨ob.slots, k b ob q⟩, fun _ _ _ n _ => n, fun b ob q _ => ⟨ob, k b ob q⟩, fun _ _ q => q, fun _ _ _ q => q, fun _ ps q => ⟨#[], by rw [q]; simp⟩⟩
theorem Un.refl : Un fs ex H H h h := Un.kept fun _ _ q => q
theorem Un.laid (k : ∀ b u, h.get? b = some u → h'.get? b = some u) (hp : h.objs.size ≤ a) (hn : H a = none) : Un fs ex H (upd H a o) h h' where
  keep := fun b u q _ _ _ => k b u q
  slot := fun b u q _ _ _ => ⟨u.slots, k b u q⟩
  free := fun b u q n _ => by rw [upd_ne (Nat.ne_of_lt (Nat.lt_of_lt_of_le (Heap.lt_size q) hp))]; exact n
  there := fun b u q _ => ⟨u, k b u q⟩
  tups := fun b xs q => by rw [upd_ne (ne_of_none q hn)]; exact q
  frzs := fun b u xs q => by rw [upd_ne (ne_of_none q hn)]; exact q
  tbls := fun b ps q => ⟨#[], by rw [upd_ne (ne_of_none q hn), q]; simp⟩
theorem Un.write (mu : Mut (H x)) (he : e = x ∨ H e = some (.own x)) (k : ∀ b u, b ≠ e → h.get? b = some u → h'.get? b = some u) (heo : ∃ u, h'.get? e = some u) : Un fs ex H (upd H x o) h h' := by
  have hx : ∀ b, H b = none → b ≠ x := fun b n z => by subst z; rw [n] at mu; exact mu
  have hb : ∀ b, H b = none → b ≠ e := fun b n z => by
    subst z
    rcases he with r | r
    · exact hx b n r
    · rw [n] at r; cases r
  have hm : ∀ b u, H b = some u → ¬ Mut (some u) → b ≠ x := fun b u q nm z => by subst z; rw [q] at mu; exact nm mu
  refine ⟨fun b u q n _ _ => k b u (hb b n) q, fun b u q n _ _ => ⟨u.slots, k b u (hb b n) q⟩, fun b u q n _ => by rw [upd_ne (hx b n)]; exact n, fun b u q _ => ?_,
    fun b xs q => by rw [upd_ne (hm b _ q fun z => z)]; exact q, fun b u xs q => by rw [upd_ne (hm b _ q fun z => z)]; exact q, fun b ps q => ⟨#[], by rw [upd_ne (hm b _ q fun z => z), q]; simp⟩⟩
  by_cases hbe : b = e
  · subst hbe; exact heo
  · exact ⟨u, k b u hbe q⟩
theorem Un.mono (u : Un fs ex H H1 h h1) (hs : ∀ b ∈ fs, b ∈ fs') (hx : ∀ b ∈ ex, b ∈ ex') : Un fs' ex' H H1 h h1 :=
  ⟨fun b ob q n hb he => u.keep b ob q n (fun z => hb (hs b z)) fun z => he (hx b z), fun _ _ q n _ he => u.any q n fun z => he (hx _ z), fun b ob q n he => u.free b ob q n fun z => he (hx b z), fun b ob q he => u.there b ob q fun z => he (hx b z), u.tups, u.frzs, u.tbls⟩
end

/-! ### the heap without what is tracked -/
def trk (h : Heap) (H : Hp) : List Addr := (List.range h.objs.size).filter fun a => (H a).isSome
def hidT (h : Heap) (H : Hp) : Heap := PySem.W.hideAll h (trk h H)
theorem hidT_size (h : Heap) (H : Hp) : (hidT h H).objs.size = h.objs.size := PySem.W.hideAll_size _ _
theorem hidT_get {h : Heap} {H : Hp} {b : Addr} {o : Obj} (e : h.get? b = some o) (n : H b = none) : (hidT h H).get? b = some o :=
  PySem.W.hideAll_get _ e fun hm => by
    have q : (H b).isSome = true := (List.mem_filter.mp hm).2
    rw [n] at q; simp at q
theorem of_hidT {h : Heap} {H : Hp} {b : Addr} {o : Obj} (e : (hidT h H).get? b = some o) : h.get? b = some o ∧ H b = none := by
  have e' : h.get? b = some o := PySem.W.of_hideAll (trk h H) e
  refine ⟨e', ?_⟩
  cases q : H b with
  | none => rfl
  | some x =>
    have hm : b ∈ trk h H := List.mem_filter.mpr ⟨List.mem_range.mpr (Heap.lt_size e'), by simp [q]⟩
    have z : (hidT h H).get? b = none := PySem.W.hideAll_none (trk h H) hm
    rw [z] at e; cases e

/-! ### OpenK's ledger, filled with every new object but one -/
def allNews (g h : Heap) (L : Addr) : List (Addr × Obj) := (List.range h.objs.size).filterMap fun a => if a = L ∨ (g.get? a).isSome = true then none else (h.get? a).map fun o => (a, o)
def rest (g h : Heap) (L d : Addr) : List (Addr × Obj) := (allNews g h L).filter fun p => decide (p.1 ≠ d)
end L2

namespace L2
open PySem PySem.Spec PyProof.Rows

/-- the module's facts, over the base: the heap at the law's entry without what is tracked there -/
structure Mod (K : PySem.W.Frag) (mg : Str → Option Value) (base : Heap) : Prop where
  kin : K.In base
  glob : base.Ns mainGlobals mg
  blt : ∃ mb, base.Ns builtinsNs mb ∧ ∀ x : Str, x ≠ "__name__" → mb x = bootBuiltins x
  nolimit : base.NoLimit

/-- the context: a def's body (or a comprehension's block) running. base: fixed through the whole law; s₀, H₀: the entry; outer: the frames whose slots others may change (a def's callers); stack: all frames that run;
   ex: iterators that were made ahead of the entry and are walked here (a comprehension's); fn: the names whose cells were made at the entry (a def: all; a comprehension's block: its own); calm: not within an except suite; pn: pins that every state bears; xe: what is wanted of an exception that leaves the code -/
structure Cx where
  prog : Program
  w : World
  K : PySem.W.Frag
  mg : Str → Option Value
  base : Heap
  A : Around
  N : List Str
  s₀ : Shared
  H₀ : Hp
  env : Env
  outer : List Env
  stack : List Env
  ex : List Addr
  fn : Str → Bool
  calm : Bool
  pn : List (Addr × Obj)
  xe : Value → Shared → Prop
/-- the callers' frames -/
def frs (l : List Env) : List Addr := l.filterMap (·.frame)
abbrev Cx.fs (X : Cx) : List Addr := frs X.outer

def Vis (sc : Scope) (x : Str) : Prop := sc.names.lookup x = some .local ∨ sc.names.lookup x = some .cell ∨ sc.names.lookup x = some .free
def Loc (sc : Scope) (x : Str) : Prop := sc.names.lookup x = some .local ∨ sc.names.lookup x = some .cell
def Look (env : Env) (h : Heap) (m : Str → Option Value) (x : Str) (u : Value) : Prop :=
  (env.kindOf x = some .local ∧ m x = some u) ∨ ((env.kindOf x = some .cell ∨ env.kindOf x = some .free) ∧ ∃ c, env.cells.lookup x = some c ∧ h.IsCell c (some u))

structure Cx.Ok (X : Cx) : Prop where
  mod : Mod X.K X.mg X.base
  kind : X.env.scope.kind = .function
  glob : X.env.globals = mainGlobals
  blt : X.env.builtins = builtinsNs
  above : X.s₀.heap.objs.size ≤ X.env.locals
  inj : ∀ x y c, X.env.cells.lookup x = some c → X.env.cells.lookup y = some c → x = y
  has : ∀ x, (X.env.kindOf x = some .cell ∨ X.env.kindOf x = some .free) → ∃ c, X.env.cells.lookup x = some c
  cab : ∀ x c, X.fn x = true → X.env.cells.lookup x = some c → X.s₀.heap.objs.size ≤ c
  hd : X.calm = true → X.A.handled = none
  frames : X.A.frames = some X.stack
  stk : X.stack = X.outer ∨ (X.stack = X.env :: X.outer ∧ X.env.frame = some X.env.locals)
  exf : ∀ b ∈ X.ex, b ≠ X.env.locals ∧ ∀ x c, X.env.cells.lookup x = some c → c ≠ b
  bs : ∀ b o, X.base.get? b = some o → X.s₀.heap.get? b = some o ∧ X.H₀ b = none
  bsz : X.base.objs.size ≤ X.s₀.heap.objs.size
  noex : ∀ b o, X.base.get? b = some o → b ∉ X.ex
  exfs : ∀ b ∈ X.ex, b ∉ X.fs
  funs : X.s₀.heap.FunFrames X.base X.outer
  frf : ∀ b ∈ X.fs, X.H₀ b = none

structure Inv (X : Cx) (pins : List (Addr × Obj)) (σ : List (Option V)) (H : Hp) (s : Shared) : Prop where
  ok : X.Ok
  os : s.os = X.s₀.os
  bare : AllBare s.gens
  base : Un X.fs X.ex X.H₀ H X.s₀.heap s.heap
  loc : ∃ m, s.heap.Ns X.env.locals m ∧ ∀ (i : Nat) (x : Str) (v : V), X.N[i]? = some x → σ[i]? = some (some v) → Vis X.env.scope x → ∃ u, RelV v u ∧ Look X.env s.heap m x u
  cell : ∀ x c, X.env.cells.lookup x = some c → ∃ v, s.heap.IsCell c v
  free : H X.env.locals = none
  freeC : ∀ x c, X.env.cells.lookup x = some c → H c = none
  pin : ∀ p ∈ X.pn ++ pins, s.heap.get? p.1 = some p.2 ∧ H p.1 = none ∧ p.1 ≠ X.env.locals ∧ p.1 ∉ X.fs ∧ ∀ v, p.2.data ≠ .cell v
  hok : HOk X.prog X.w H s.heap
  len : σ.length = X.N.length
  tk : 0 < s.toks

section
variable {X : Cx} {pins : List (Addr × Obj)} {σ : List (Option V)} {H H' : Hp} {s : Shared} {h' : Heap}

theorem Cx.Ok.nofr (ok : X.Ok) {b : Addr} {o : Obj} (e : X.base.get? b = some o) : b ∉ X.fs := fun hb => by
  have := (ok.funs.mem hb).1
  rw [e] at this; cases this
theorem Inv.bs (I : Inv X pins σ H s) : ∀ b o, X.base.get? b = some o → s.heap.get? b = some o ∧ H b = none := fun b o e =>
  ⟨I.base.keep b o (I.ok.bs b o e).1 (I.ok.bs b o e).2 (I.ok.nofr e) (I.ok.noex b o e), I.base.free b o (I.ok.bs b o e).1 (I.ok.bs b o e).2 (I.ok.noex b o e)⟩
theorem Inv.bk (I : Inv X pins σ H s) : ∀ b o, X.base.get? b = some o → s.heap.get? b = some o := fun b o e => (I.bs b o e).1
theorem Inv.mod (I : Inv X pins σ H s) : Mod X.K X.mg X.base := I.ok.mod
theorem Inv.kIn (I : Inv X pins σ H s) : X.K.In s.heap := I.ok.mod.kin.keeps I.bk
theorem Inv.nolimit (I : Inv X pins σ H s) : s.heap.NoLimit := I.ok.mod.nolimit.keeps I.bk
/-- the frame over the base: for OpenK's rules (K.In X.base is I.mod.kin) -/
theorem Inv.fr (I : Inv X pins σ H s) : ∃ m, Fr X.base X.env.locals s.heap m :=
  let ⟨m, hn, _⟩ := I.loc
  ⟨m, hn, I.bk, Nat.le_trans I.ok.bsz I.ok.above⟩
theorem Inv.lt (I : Inv X pins σ H s) : X.env.locals < s.heap.objs.size := let ⟨_, hn, _⟩ := I.loc; hn.lt
theorem Inv.sz (I : Inv X pins σ H s) : X.s₀.heap.objs.size ≤ s.heap.objs.size := Nat.le_trans I.ok.above (Nat.le_of_lt I.lt)
theorem Inv.nofs (I : Inv X pins σ H s) {a : Addr} (h : s.heap.objs.size ≤ a) : a ∉ X.fs := fun hb => by
  obtain ⟨_, o, ho, _⟩ := I.ok.funs.mem hb
  exact absurd (Nat.lt_of_lt_of_le (Heap.lt_size ho) (Nat.le_trans I.sz h)) (Nat.lt_irrefl _)
theorem Inv.cne (I : Inv X pins σ H s) : ∀ x c, X.env.cells.lookup x = some c → c ≠ X.env.locals := fun x c e z => by
  obtain ⟨v, o, ho, hd⟩ := I.cell x c e
  obtain ⟨m, ⟨o', es, ep, ho', hd', _⟩, _⟩ := I.loc
  rw [z, ho'] at ho; cases ho; rw [hd'] at hd; cases hd
theorem Inv.funs (I : Inv X pins σ H s) : s.heap.FunFrames X.base X.outer := by
  have all : ∀ (l : List Env), (∀ b ∈ frs l, b ∈ X.fs) → X.s₀.heap.FunFrames X.base l → s.heap.FunFrames X.base l := by
    intro l
    induction l with
    | nil => intro _ _; trivial
    | cons env r ih =>
      intro hs hl
      obtain ⟨hk, ⟨L, o, hf, hn, ho, hd⟩, hr⟩ := hl
      have hL : L ∈ X.fs := hs L (by unfold frs; rw [List.filterMap_cons, hf]; exact List.mem_cons_self)
      obtain ⟨sl, e⟩ := I.base.slot L o ho (I.ok.frf L hL) hL fun z => I.ok.exfs L z hL
      exact ⟨hk, ⟨L, _, hf, hn, e, hd⟩, ih (fun b hb => hs b (by unfold frs; rw [List.filterMap_cons, hf]; exact List.mem_cons_of_mem _ hb)) hr⟩
  exact all X.outer (fun _ hb => hb) I.ok.funs

/-- the frames that run, for a call -/
theorem Inv.stack (I : Inv X pins σ H s) : s.heap.FunFrames X.base X.stack := by
  rcases I.ok.stk with e | ⟨e, hf⟩
  · rw [e]; exact I.funs
  · rw [e]
    obtain ⟨m, hn, _⟩ := I.loc
    refine .cons (by rw [I.ok.kind]; decide) hf hn ?_ I.funs
    exact Heap.get?_none_of_le (Nat.le_trans I.ok.bsz I.ok.above)
theorem Inv.stkSub (I : Inv X pins σ H s) : ∀ b ∈ frs X.stack, b ∈ X.env.locals :: X.fs := fun b hb => by
  rcases I.ok.stk with e | ⟨e, hf⟩
  · rw [e] at hb; exact List.mem_cons_of_mem _ hb
  · rw [e] at hb
    unfold frs at hb
    rw [List.filterMap_cons, hf] at hb
    exact hb
theorem Inv.stkFree (I : Inv X pins σ H s) : ∀ b ∈ frs X.stack, H b = none := fun b hb => by
  rcases List.mem_cons.mp (I.stkSub b hb) with e | hb
  · rw [e]; exact I.free
  · obtain ⟨_, o, ho, _⟩ := I.ok.funs.mem hb
    exact I.base.free b o ho (I.ok.frf b hb) fun z => I.ok.exfs b z hb

/-- THE STEP: the untracked objects but the frame and the records at ch are kept (the callers' frames up to slots), the frame's map is kept, the new abstract heap is held -/
theorem Inv.step {g' : Array GenState} {t' : Nat} {d' : Drawn} {ch : List Addr} (I : Inv X pins σ H s)
    (hch : ∀ b ∈ ch, (b ∈ X.ex ∨ X.s₀.heap.objs.size ≤ b) ∧ b ≠ X.env.locals ∧ (∀ x c, X.env.cells.lookup x = some c → c ≠ b) ∧ ∀ p ∈ X.pn ++ pins, p.1 ≠ b)
    (keep : ∀ b o, b ≠ X.env.locals → b ∉ X.fs → b ∉ ch → s.heap.get? b = some o → H b = none → h'.get? b = some o)
    (slot : ∀ b o, b ≠ X.env.locals → b ∈ X.fs → b ∉ ch → s.heap.get? b = some o → H b = none → ∃ sl, h'.get? b = some { o with slots := sl }) (free : ∀ b o, b ∉ ch → s.heap.get? b = some o → H b = none → H' b = none)
    (there : ∀ b o, b ∉ ch → s.heap.get? b = some o → ∃ o', h'.get? b = some o')
    (tups : ∀ b xs, H b = some (.tup xs) → H' b = some (.tup xs)) (frzs : ∀ b o u, H b = some (.frz o u) → H' b = some (.frz o u)) (tbls : ∀ b ps, H b = some (.tbl ps) → ∃ more, H' b = some (.tbl (ps ++ more)))
    (ns : ∀ m, s.heap.Ns X.env.locals m → h'.Ns X.env.locals m) (hok : HOk X.prog X.w H' h') (hg : AllBare g') (ht : 0 < t' := by first | assumption | exact Nat.succ_pos _ | (apply Inv.tk; assumption) | omega) :
    Inv X pins σ H' { s with heap := h', gens := g', drawn := d', toks := t' } := by
  have neL : ∀ b o, X.s₀.heap.get? b = some o → b ≠ X.env.locals := fun b o e => Nat.ne_of_lt (Nat.lt_of_lt_of_le (Heap.lt_size e) I.ok.above)
  have neC : ∀ b o, X.s₀.heap.get? b = some o → b ∉ X.ex → b ∉ ch := fun b o e hx hb => by
    rcases (hch b hb).1 with z | z
    · exact hx z
    · exact absurd (Nat.lt_of_lt_of_le (Heap.lt_size e) z) (Nat.lt_irrefl _)
  have cellK : ∀ x c, X.env.cells.lookup x = some c → ∀ v, s.heap.IsCell c v → h'.IsCell c v := fun x c e v ⟨o, ho, hd⟩ => by
    have nch : c ∉ ch := fun z => (hch c z).2.2.1 x c e rfl
    by_cases hc : c ∈ X.fs
    · obtain ⟨sl, q⟩ := slot c o (I.cne x c e) hc nch ho (I.freeC x c e)
      exact ⟨_, q, hd⟩
    · exact ⟨o, keep c o (I.cne x c e) hc nch ho (I.freeC x c e), hd⟩
  refine ⟨I.ok, I.os, hg, ⟨fun b o e n hb hx => ?_, fun b o e n hb hx => ?_, fun b o e n hx => ?_, fun b o e hx => ?_, fun b xs e => tups b xs (I.base.tups b xs e), fun b o xs e => frzs b o xs (I.base.frzs b o xs e), fun b ps e => ?_⟩, ?_, fun x c e => ?_, ?_, fun x c e => ?_, fun p hp => ?_, hok, I.len, ht⟩
  · exact keep b o (neL b o e) hb (neC b o e hx) (I.base.keep b o e n hb hx) (I.base.free b o e n hx)
  · obtain ⟨sl, e1⟩ := I.base.slot b o e n hb hx
    obtain ⟨sl', e2⟩ := slot b _ (neL b o e) hb (neC b o e hx) e1 (I.base.free b o e n hx)
    exact ⟨sl', e2⟩
  · obtain ⟨o', e1⟩ := I.base.there b o e hx
    exact free b o' (neC b o e hx) e1 (I.base.free b o e n hx)
  · obtain ⟨o', e1⟩ := I.base.there b o e hx
    exact there b o' (neC b o e hx) e1
  · obtain ⟨m1, e1⟩ := I.base.tbls b ps e
    obtain ⟨m2, e2⟩ := tbls b _ e1
    exact ⟨m1 ++ m2, by rw [e2, Array.append_assoc]⟩
  · obtain ⟨m, hn, hl⟩ := I.loc
    refine ⟨m, ns m hn, fun i x v e1 e2 e3 => ?_⟩
    obtain ⟨u, r, l⟩ := hl i x v e1 e2 e3
    refine ⟨u, r, ?_⟩
    rcases l with l | ⟨k, c, e, z⟩
    · exact .inl l
    · exact .inr ⟨k, c, e, cellK x c e _ z⟩
  · obtain ⟨v, z⟩ := I.cell x c e
    exact ⟨v, cellK x c e v z⟩
  · obtain ⟨m, ⟨o, _, _, ho, _⟩, _⟩ := I.loc
    exact free _ o (fun z => (hch _ z).2.1 rfl) ho I.free
  · obtain ⟨v, o, ho, hd⟩ := I.cell x c e
    exact free c o (fun z => (hch c z).2.2.1 x c e rfl) ho (I.freeC x c e)
  · obtain ⟨e, n, ne, nf, d⟩ := I.pin p hp
    have nch : p.1 ∉ ch := fun z => (hch p.1 z).2.2.2 p hp rfl
    exact ⟨keep p.1 p.2 ne nf nch e n, free p.1 p.2 nch e n, ne, nf, d⟩
/-- .. where the frame's own object is kept too -/
theorem Inv.un {t' : Nat} (I : Inv X pins σ H s) (u : Un X.fs [] H H' s.heap h') (hok : HOk X.prog X.w H' h') (ht : 0 < t' := by first | assumption | exact Nat.succ_pos _ | (apply Inv.tk; assumption) | omega) : Inv X pins σ H' { s with heap := h', toks := t' } := by
  obtain ⟨m, ⟨o, es, ep, ho, r⟩, _⟩ := id I.loc
  obtain ⟨sl, hL⟩ := u.any ho I.free (by simp)
  exact I.step (g' := s.gens) (d' := s.drawn) (ch := []) (fun _ z => nomatch z) (fun b o _ hb _ e n => u.keep b o e n hb (by simp)) (fun b o _ hb _ e n => u.slot b o e n hb (by simp)) (fun b o _ e n => u.free b o e n (by simp)) (fun b o _ e => u.there b o e (by simp)) u.tups u.frzs u.tbls (fun m' hm => by
    obtain ⟨o', es', ep', ho', r'⟩ := hm
    rw [ho] at ho'; cases ho'
    exact ⟨_, es', ep', hL, r'⟩) hok I.bare ht
/-- behind a call (or a comprehension's block): the slots of this frame may have changed too, the records at ch may have turned -/
theorem Inv.call {g' : Array GenState} {t' : Nat} {d' : Drawn} {ch : List Addr} (I : Inv X pins σ H s) (u : Un (frs X.stack) ch H H' s.heap h') (hok : HOk X.prog X.w H' h') (hg : AllBare g')
    (hch : ∀ b ∈ ch, (b ∈ X.ex ∨ X.s₀.heap.objs.size ≤ b) ∧ b ≠ X.env.locals ∧ (∀ x c, X.env.cells.lookup x = some c → c ≠ b) ∧ ∀ p ∈ X.pn ++ pins, p.1 ≠ b) (ht : 0 < t' := by first | assumption | exact Nat.succ_pos _ | (apply Inv.tk; assumption) | omega) :
    Inv X pins σ H' { s with heap := h', gens := g', drawn := d', toks := t' } := by
  obtain ⟨m, ⟨o, es, ep, ho, r⟩, _⟩ := id I.loc
  obtain ⟨sl, hL⟩ := u.any ho I.free fun z => (hch _ z).2.1 rfl
  exact I.step (ch := ch) hch (fun b o hL hb hc e n => u.keep b o e n (fun z => (List.mem_cons.mp (I.stkSub b z)).elim hL hb) hc) (fun b o _ _ hc e n => u.any e n hc) (fun b o hc e n => u.free b o e n hc) (fun b o hc e => u.there b o e hc) u.tups u.frzs u.tbls (fun m' hm => by
    obtain ⟨o', es', ep', ho', r'⟩ := hm
    rw [ho] at ho'; cases ho'
    exact ⟨_, es', ep', hL, r'⟩) hok hg ht
/-- an untracked record of ours (an iterator) has turned -/
theorem Inv.turned {t' : Nat} {it : Addr} (I : Inv X pins σ H s) (k : ∀ b o, b ≠ it → s.heap.get? b = some o → h'.get? b = some o) (hn : H it = none) (hL : it ≠ X.env.locals)
    (h1 : it ∈ X.ex ∨ X.s₀.heap.objs.size ≤ it) (h2 : ∀ x c, X.env.cells.lookup x = some c → c ≠ it) (h3 : ∀ p ∈ X.pn ++ pins, p.1 ≠ it) (ht : 0 < t' := by first | assumption | exact Nat.succ_pos _ | (apply Inv.tk; assumption) | omega) : Inv X pins σ H { s with heap := h', toks := t' } := by
  have nit : ∀ b u, H b = some u → b ≠ it := fun b u e z => by rw [z, hn] at e; cases e
  refine I.step (g' := s.gens) (d' := s.drawn) (ch := [it]) (fun b hb => ?_) (fun b o _ _ hc e _ => k b o (fun z => hc (by simp [z])) e) (fun b o _ _ hc e _ => ⟨o.slots, k b o (fun z => hc (by simp [z])) e⟩) (fun _ _ _ _ n => n)
    (fun b o hc e => ⟨o, k b o (fun z => hc (by simp [z])) e⟩) (fun _ _ e => e) (fun _ _ _ e => e) (fun b ps e => ⟨#[], by rw [e]; simp⟩) (fun m hm => ?_) (fun b u e => ?_) I.bare
  · have e : b = it := by simpa using hb
    subst e
    exact ⟨h1, hL, h2, h3⟩
  · obtain ⟨o, es, ep, ho, r⟩ := hm
    exact ⟨o, es, ep, k _ o (Ne.symm hL) ho, r⟩
  · refine (I.hok b u e).stay (fun c v hc q => k c v ?_ q) (fun _ q => q) fun _ _ q => q
    rcases hc with z | z
    · rw [z]; exact nit b u e
    · exact nit c _ z
theorem Inv.tok (I : Inv X pins σ H s) (t : Nat) (ht : 0 < t := by first | assumption | exact Nat.succ_pos _ | (apply Inv.tk; assumption) | omega) : Inv X pins σ H { s with toks := t } := I.un (h' := s.heap) (t' := t) Un.refl I.hok ht
/-- all objects kept -/
theorem Inv.kept {t' : Nat} (I : Inv X pins σ H s) (k : ∀ b u, s.heap.get? b = some u → h'.get? b = some u) (ht : 0 < t' := by first | assumption | exact Nat.succ_pos _ | (apply Inv.tk; assumption) | omega) : Inv X pins σ H { s with heap := h', toks := t' } := I.un (Un.kept k) (I.hok.kept k) ht
/-- a new object laid and tracked -/
theorem Inv.laid {a : Addr} {o : HO} {t' : Nat} (I : Inv X pins σ H s) (k : ∀ b u, s.heap.get? b = some u → h'.get? b = some u) (hp : s.heap.objs.size ≤ a) (new : ObjOk X.prog X.w (upd H a o) h' a o) (ht : 0 < t' := by first | assumption | exact Nat.succ_pos _ | (apply Inv.tk; assumption) | omega) :
    Inv X pins σ (upd H a o) { s with heap := h', toks := t' } := I.un (Un.laid k hp (I.hok.fresh hp)) (I.hok.laid k hp new) ht
/-- an object written -/
theorem Inv.write {x e : Addr} {o : HO} {t' : Nat} (I : Inv X pins σ H s) (mu : Mut (H x)) (he : e = x ∨ H e = some (.own x)) (k : ∀ b u, b ≠ e → s.heap.get? b = some u → h'.get? b = some u) (heo : ∃ u, h'.get? e = some u)
    (new : ObjOk X.prog X.w (upd H x o) h' x o) (ht : 0 < t' := by first | assumption | exact Nat.succ_pos _ | (apply Inv.tk; assumption) | omega) : Inv X pins σ (upd H x o) { s with heap := h', toks := t' } := I.un (Un.write mu he k heo) (I.hok.write mu he k heo new) ht
/-- forgetting slots, pins -/
theorem Inv.weak {σ' : List (Option V)} (I : Inv X pins σ H s) (hl : σ'.length = σ.length) (w : ∀ (i : Nat) v, σ'[i]? = some (some v) → σ[i]? = some (some v)) : Inv X pins σ' H s :=
  ⟨I.ok, I.os, I.bare, I.base, let ⟨m, hn, hl'⟩ := I.loc; ⟨m, hn, fun i x v e1 e2 e3 => hl' i x v e1 (w i v e2) e3⟩, I.cell, I.free, I.freeC, I.pin, I.hok, hl.trans I.len, I.tk⟩
theorem Inv.pins_of {pins' : List (Addr × Obj)} (I : Inv X pins σ H s) (h : ∀ p ∈ pins', s.heap.get? p.1 = some p.2 ∧ H p.1 = none ∧ p.1 ≠ X.env.locals ∧ p.1 ∉ X.fs ∧ ∀ v, p.2.data ≠ .cell v) : Inv X pins' σ H s :=
  ⟨I.ok, I.os, I.bare, I.base, I.loc, I.cell, I.free, I.freeC, fun p hp => (List.mem_append.mp hp).elim (fun z => I.pin p (List.mem_append_left _ z)) (h p), I.hok, I.len, I.tk⟩

theorem nodup_ix {N : List Str} (hN : N.Nodup) {i j : Nat} {x : Str} (a : N[i]? = some x) (b : N[j]? = some x) : i = j := by
  obtain ⟨h1, e1⟩ := List.getElem?_eq_some_iff.mp a
  obtain ⟨h2, e2⟩ := List.getElem?_eq_some_iff.mp b
  exact (List.getElem_inj hN).mp (e1.trans e2.symm)

/-- a name is stored; what changed -/
theorem store_ok2 {M : Model} {A : Around} {E : Value → Shared → Prop} {i : Nat} {x : Str} {v : V} {u : Value} {Q : Unit → Shared → Prop} (I : Inv X pins σ H s) (hN : X.N.Nodup) (hi : X.N[i]? = some x) (hx : Loc X.env.scope x) (r : RelV v u)
    (h : ∀ s', Inv X pins (σ.set i (some v)) H s' → (∃ a, Heap.SameBut a s.heap s'.heap ∧ (a = X.env.locals ∨ X.env.cells.lookup x = some a)) → Q () s') (hf : X.fn x = true ∨ X.env.scope.names.lookup x = some .local := by first | exact .inl rfl | exact .inr rfl | assumption) : wpAny M A (storeName X.env x u) Q E s := by
  obtain ⟨m, hn, hl⟩ := id I.loc
  have hcls : (X.env.scope.kind == .class || (X.env.scope.kind == .module && X.env.locals != X.env.globals)) = false := by rw [I.ok.kind]; rfl
  have hiσ : i < σ.length := by rw [I.len]; exact (List.getElem?_eq_some_iff.mp hi).1
  have cne := I.cne
  have tracked : ∀ {a : Addr} {h' : Heap}, (∃ o, s.heap.get? a = some o ∧ H a = none) → Heap.SameBut a s.heap h' → HOk X.prog X.w H h' := fun {a h'} ha hs b ob e => by
    obtain ⟨_, _, hfree⟩ := ha
    refine (I.hok b ob e).stay (fun c w' hc q => (hs.2 c ?_).trans q) (fun _ q => q) fun _ _ q => q
    rintro rfl
    rcases hc with rfl | hc
    · rw [hfree] at e; cases e
    · rw [hfree] at hc; cases hc
  rcases hx with hk | hk
  · refine wpAny_storeName_local hk hn (fun h' hn' hs => ?_) hcls
    obtain ⟨oL, _, _, hoL, _⟩ := id hn
    refine h _ ⟨I.ok, I.os, I.bare, ⟨fun b o e n hb hx => ?_, fun b o e n hb hx => ?_, I.base.free, fun b o e hx => ?_, I.base.tups, I.base.frzs, I.base.tbls⟩, ⟨_, hn', fun j y v' e1 e2 e3 => ?_⟩, fun y c e => ?_, I.free, I.freeC, fun p hp => ?_, tracked ⟨oL, hoL, I.free⟩ hs, by simpa using I.len, (by first | exact Nat.succ_pos _ | exact I.tk)⟩ ⟨_, hs, .inl rfl⟩
    · exact (hs.2 b (Nat.ne_of_lt (Nat.lt_of_lt_of_le (Heap.lt_size e) I.ok.above))).trans (I.base.keep b o e n hb hx)
    · obtain ⟨sl, e1⟩ := I.base.slot b o e n hb hx
      exact ⟨sl, (hs.2 b (Nat.ne_of_lt (Nat.lt_of_lt_of_le (Heap.lt_size e) I.ok.above))).trans e1⟩
    · obtain ⟨o', e1⟩ := I.base.there b o e hx
      exact ⟨o', (hs.2 b (Nat.ne_of_lt (Nat.lt_of_lt_of_le (Heap.lt_size e) I.ok.above))).trans e1⟩
    · by_cases hj : j = i
      · subst hj
        rw [hi] at e1; cases e1
        rw [List.getElem?_set_self hiσ] at e2
        cases e2
        exact ⟨u, r, .inl ⟨hk, by simp⟩⟩
      · rw [List.getElem?_set_ne (Ne.symm hj)] at e2
        obtain ⟨u', r', q⟩ := hl j y v' e1 e2 e3
        refine ⟨u', r', ?_⟩
        rcases q with ⟨k, e⟩ | ⟨k, c, e, z⟩
        · refine .inl ⟨k, ?_⟩
          have : y ≠ x := fun e => hj (nodup_ix hN e1 (e ▸ hi))
          simp [this, e]
        · exact .inr ⟨k, c, e, z.sameBut hs (cne y c e)⟩
    · obtain ⟨w', z⟩ := I.cell y c e
      exact ⟨w', z.sameBut hs (cne y c e)⟩
    · obtain ⟨e, n, ne, nf, d⟩ := I.pin p hp
      exact ⟨(hs.2 p.1 ne).trans e, n, ne, nf, d⟩
  · have hfn : X.fn x = true := by
      rcases hf with z | z
      · exact z
      · rw [z] at hk; cases hk
    obtain ⟨c, hc⟩ := I.ok.has x (.inl hk)
    obtain ⟨w', z⟩ := I.cell x c hc
    refine wpAny_storeName_cell I.ok.kind hk hc z (fun h' hc' hs => ?_)
    obtain ⟨oc, hoc, hocd⟩ := id z
    refine h { s with heap := h' } ⟨I.ok, I.os, I.bare, ⟨fun b o e n hb hx => ?_, fun b o e n hb hx => ?_, I.base.free, fun b o e hx => ?_, I.base.tups, I.base.frzs, I.base.tbls⟩, ⟨m, hn.sameBut hs (Ne.symm (cne x c hc)), fun j y v' e1 e2 e3 => ?_⟩, fun y c' e => ?_, I.free, I.freeC, fun p hp => ?_, tracked ⟨oc, hoc, I.freeC x c hc⟩ hs, by simpa using I.len, I.tk⟩ ⟨c, hs, .inr hc⟩
    · exact (hs.2 b (Nat.ne_of_lt (Nat.lt_of_lt_of_le (Heap.lt_size e) (I.ok.cab x c hfn hc)))).trans (I.base.keep b o e n hb hx)
    · obtain ⟨sl, e1⟩ := I.base.slot b o e n hb hx
      exact ⟨sl, (hs.2 b (Nat.ne_of_lt (Nat.lt_of_lt_of_le (Heap.lt_size e) (I.ok.cab x c hfn hc)))).trans e1⟩
    · obtain ⟨o', e1⟩ := I.base.there b o e hx
      exact ⟨o', (hs.2 b (Nat.ne_of_lt (Nat.lt_of_lt_of_le (Heap.lt_size e) (I.ok.cab x c hfn hc)))).trans e1⟩
    · by_cases hj : j = i
      · subst hj
        rw [hi] at e1; cases e1
        rw [List.getElem?_set_self hiσ] at e2
        cases e2
        exact ⟨u, r, .inr ⟨.inl hk, c, hc, hc'⟩⟩
      · rw [List.getElem?_set_ne (Ne.symm hj)] at e2
        obtain ⟨u', r', q⟩ := hl j y v' e1 e2 e3
        refine ⟨u', r', ?_⟩
        rcases q with q | ⟨k, c', e, z'⟩
        · exact .inl q
        · refine .inr ⟨k, c', e, z'.sameBut hs ?_⟩
          rintro rfl
          exact hj (nodup_ix hN e1 (I.ok.inj _ _ _ e hc ▸ hi))
    · by_cases hcc : c' = c
      · subst hcc; exact ⟨_, hc'⟩
      · obtain ⟨w2, z2⟩ := I.cell y c' e
        exact ⟨w2, z2.sameBut hs hcc⟩
    · obtain ⟨e, n, ne, nf, d⟩ := I.pin p hp
      refine ⟨(hs.2 p.1 ?_).trans e, n, ne, nf, d⟩
      intro q
      rw [q, hoc] at e
      have q' : oc = p.2 := Option.some.inj e
      exact d w' (by rw [← q']; exact hocd)
theorem store_ok {M : Model} {A : Around} {E : Value → Shared → Prop} {i : Nat} {x : Str} {v : V} {u : Value} {Q : Unit → Shared → Prop} (I : Inv X pins σ H s) (hN : X.N.Nodup) (hi : X.N[i]? = some x) (hx : Loc X.env.scope x) (r : RelV v u)
    (h : ∀ s', Inv X pins (σ.set i (some v)) H s' → Q () s') (hf : X.fn x = true ∨ X.env.scope.names.lookup x = some .local := by first | exact .inl rfl | exact .inr rfl | assumption) : wpAny M A (storeName X.env x u) Q E s :=
  store_ok2 I hN hi hx r (fun s' I' _ => h s' I') hf
/-- behind a call or a block, the state as it is -/
theorem Inv.call' {s' : Shared} {ch : List Addr} (I : Inv X pins σ H s) (ho : s'.os = s.os) (u : Un (frs X.stack) ch H H' s.heap s'.heap) (hok : HOk X.prog X.w H' s'.heap) (hg : AllBare s'.gens)
    (hch : ∀ b ∈ ch, (b ∈ X.ex ∨ X.s₀.heap.objs.size ≤ b) ∧ b ≠ X.env.locals ∧ (∀ x c, X.env.cells.lookup x = some c → c ≠ b) ∧ ∀ p ∈ X.pn ++ pins, p.1 ≠ b) (ht : 0 < s'.toks := by first | assumption | exact Nat.succ_pos _ | (apply Inv.tk; assumption) | omega) : Inv X pins σ H' s' := by
  obtain ⟨h', g', d', t', o'⟩ := s'
  have e : o' = s.os := ho
  subst e
  exact I.call (g' := g') (t' := t') (d' := d') u hok hg hch ht
end

/-! ### the judgements -/
/-- an exception: its class, its own dict's address (where it has one), the abstract heap behind it -/
abbrev XK := Value → Option Addr → Hp → Prop
abbrev St := List (Option V)
abbrev VK := V → Hp → Prop
/-- an expression's reading; a test's; an argument list's -/
abbrev TE := St → Hp → VK → Prop
abbrev TT := St → Hp → (Bool → Hp → Prop) → Prop
abbrev TA := St → Hp → (List V → Hp → Prop) → Prop
/-- what is wanted behind a statement -/
structure Ends where
  nx : St → Hp → Prop
  rt : VK
  bk : St → Hp → Prop := fun _ _ => False
  ct : St → Hp → Prop := fun _ _ => False
abbrev TS := Ends → St → Hp → Prop

def EP (X : Cx) (pins : List (Addr × Obj)) (σ : St) (Q : VK) (u : Value) (s' : Shared) : Prop := ∃ v H', Inv X pins σ H' s' ∧ RelV v u ∧ Q v H'
def TP (X : Cx) (pins : List (Addr × Obj)) (σ : St) (Q : Bool → Hp → Prop) (b : Bool) (s' : Shared) : Prop := ∃ H', Inv X pins σ H' s' ∧ Q b H'
def AP (X : Cx) (pins : List (Addr × Obj)) (σ : St) (Q : List V → Hp → Prop) (us : List Value) (s' : Shared) : Prop := ∃ vs H', Inv X pins σ H' s' ∧ Vals vs us ∧ Q vs H'
def SP (X : Cx) (pins : List (Addr × Obj)) (D : Ends) (f : Flow) (s' : Shared) : Prop :=
  match f with
  | .next => ∃ σ' H', Inv X pins σ' H' s' ∧ D.nx σ' H'
  | .brk => ∃ σ' H', Inv X pins σ' H' s' ∧ D.bk σ' H'
  | .cont => ∃ σ' H', Inv X pins σ' H' s' ∧ D.ct σ' H'
  | .ret u => ∃ v σ' H', Inv X pins σ' H' s' ∧ RelV v u ∧ D.rt v H'

def PE (X : Cx) (e : Expr) (t : TE) : Prop :=
  ∀ (pins : List (Addr × Obj)) (s : Shared) (σ : St) (H : Hp) (Q : VK), Inv X pins σ H s → t σ H Q → wpAny (model X.prog X.w) X.A (eval e X.env) (EP X pins σ Q) X.xe s
def PT (X : Cx) (e : Expr) (t : TT) : Prop :=
  ∀ (pins : List (Addr × Obj)) (s : Shared) (σ : St) (H : Hp) (Q : Bool → Hp → Prop), Inv X pins σ H s → t σ H Q → wpAny (model X.prog X.w) X.A (isTrue e X.env (eval e X.env)) (TP X pins σ Q) X.xe s
/-- a test whatever its 'whole' is (and, or) -/
def PW (X : Cx) (e : Expr) (t : TT) : Prop :=
  ∀ (whole : Sem Value) (pins : List (Addr × Obj)) (s : Shared) (σ : St) (H : Hp) (Q : Bool → Hp → Prop), Inv X pins σ H s → t σ H Q → wpAny (model X.prog X.w) X.A (isTrue e X.env whole) (TP X pins σ Q) X.xe s
theorem PW.pt {X : Cx} {e : Expr} {t : TT} (h : PW X e t) : PT X e t := h _
/-- an argument list (no star), from the left -/
def PA (X : Cx) (es : List Expr) (t : TA) : Prop :=
  ∀ (pos : Pos) (pins : List (Addr × Obj)) (s : Shared) (σ : St) (H : Hp) (Q : List V → Hp → Prop), Inv X pins σ H s → t σ H Q → wpAny (model X.prog X.w) X.A (spliced (backTo pos (starEach es X.env))) (AP X pins σ Q) X.xe s
def PS (X : Cx) (st : Stmt) (t : TS) : Prop :=
  ∀ (pins : List (Addr × Obj)) (s : Shared) (σ : St) (H : Hp) (D : Ends), Inv X pins σ H s → t D σ H → wpAny (model X.prog X.w) X.A (exec st X.env) (SP X pins D) X.xe s
def PSs (X : Cx) (st : List Stmt) (t : TS) : Prop :=
  ∀ (pins : List (Addr × Obj)) (s : Shared) (σ : St) (H : Hp) (D : Ends), Inv X pins σ H s → t D σ H → wpAny (model X.prog X.w) X.A (execs st X.env) (SP X pins D) X.xe s
/-- weaken the end -/
theorem thn {α : Type} {t : Sem α} {Q Q' : α → Shared → Prop} {M : Model} {A : Around} {E : Value → Shared → Prop} {s : Shared} (h : wpAny M A t Q E s) (hQ : ∀ a s, Q a s → Q' a s) : wpAny M A t Q' E s := wpAny_mono h hQ fun _ _ x => x
theorem tokQ {α : Type} {t : Sem α} {Q : α → Shared → Prop} {M : Model} {A : Around} {E : Value → Shared → Prop} {s : Shared} (h0 : 0 < s.toks) (h : wpAny M A t (fun a s' => 0 < s'.toks → Q a s') E s) : wpAny M A t Q E s :=
  wpAny_mono (wpAny_toks_of (n := 1) h0 h) (fun _ _ z => z.2 z.1) fun _ _ z => z.2
end L2

namespace L2
open PySem PySem.Spec PyProof.Rows
section
variable {X : Cx}

/-! ### names and constants -/
def tVar (i : Nat) : TE := fun σ H Q => ∃ v, σ[i]? = some (some v) ∧ Q v H
def tC (v : V) : TE := fun _ H Q => Q v H
theorem pe_var {i : Nat} {x : Str} {pos : Pos} (hN : X.N[i]? = some x) (hv : Vis X.env.scope x) (hd : (x == ("__debug__" : Str)) = false := by decide) (hcd : (x == ("__classdict__" : Str)) = false := by decide) : PE X (.Name x pos) (tVar i) := by
  intro pins s σ H Q I h
  obtain ⟨v, e, h⟩ := h
  obtain ⟨m, hn, hl⟩ := I.loc
  obtain ⟨u, r, l⟩ := hl i x v hN e hv
  have fin : EP X pins σ Q u s := ⟨v, H, I, r, h⟩
  rcases l with ⟨hk, hm⟩ | ⟨hk, c, hc, hcell⟩
  · exact wpAny_Name (wpAny_loadName_local I.ok.kind hk hn hm fin) hd
  · rcases hk with hk | hk
    · exact wpAny_Name (wpAny_loadName_cell I.ok.kind hk hc hcell fin) hd
    · exact wpAny_Name (wpAny_loadName_free I.ok.kind hk hc hcell fin hcd) hd
theorem pe_int {i j pos} : PE X (.Constant (.int i) j pos) (tC (.int i)) := fun _ _ _ H _ I h => wpAny_Constant_int ⟨.int i, H, I.tok _, ⟨_, rfl⟩, h⟩
theorem pe_bl {b j pos} : PE X (.Constant (.bool b) j pos) (tC (.bl b)) := fun _ _ _ H _ I h => Constant_bool ⟨.bl b, H, I, rfl, h⟩
theorem pe_non {j pos} : PE X (.Constant .none j pos) (tC .non) := fun _ _ _ H _ I h => Constant_none ⟨.non, H, I, rfl, h⟩
theorem pe_str {x j pos} : PE X (.Constant (.str x) j pos) (tC (.str x)) := fun _ _ _ H _ I h => Calls.Constant_str ⟨.str x, H, I.tok _, ⟨_, rfl⟩, h⟩

/-- a global name of the def -/
def Gl (X : Cx) (x : Str) : Prop := X.env.kindOf x = some .globalImplicit
theorem ld_glob {E : Value → Shared → Prop} {pins : List (Addr × Obj)} {s : Shared} {σ : St} {H : Hp} {x : Str} {u : Value} {pos : Pos} {Q : Value → Shared → Prop} (I : Inv X pins σ H s) (hg : Gl X x) (hm : X.mg x = some u) (h : Q u s)
    (hd : (x == ("__debug__" : Str)) = false := by decide) : wpAny (model X.prog X.w) X.A (eval (.Name x pos) X.env) Q E s :=
  Calls.Name_function_global I.ok.kind hg (Calls.loadGlobal_global (by rw [I.ok.glob]; exact I.mod.glob.keeps I.bk) hm h) hd
theorem ld_blt {E : Value → Shared → Prop} {pins : List (Addr × Obj)} {s : Shared} {σ : St} {H : Hp} {x : Str} {u : Value} {pos : Pos} {Q : Value → Shared → Prop} (I : Inv X pins σ H s) (hg : Gl X x) (hm : X.mg x = none) (hv : bootBuiltins x = some u) (h : Q u s)
    (hn : x ≠ "__name__" := by decide) (hd : (x == ("__debug__" : Str)) = false := by decide) : wpAny (model X.prog X.w) X.A (eval (.Name x pos) X.env) Q E s := by
  obtain ⟨mb, h1, h2⟩ := I.mod.blt
  exact Calls.Name_function_global I.ok.kind hg (Calls.loadGlobal_builtin (by rw [I.ok.glob]; exact I.mod.glob.keeps I.bk) hm (by rw [I.ok.blt]; exact h1.keeps I.bk) ((h2 x hn).trans hv) h) hd
/-- a module's constant, a class, a function, as a value -/
theorem pe_glob {x : Str} {v : V} {u : Value} {pos : Pos} (hg : Gl X x) (hm : X.mg x = some u) (r : RelV v u) (hd : (x == ("__debug__" : Str)) = false := by decide) : PE X (.Name x pos) (tC v) :=
  fun _ _ _ H _ I h => ld_glob I hg hm ⟨v, H, I, r, h⟩ hd
theorem pe_bltn {x : Str} {v : V} {u : Value} {pos : Pos} (hg : Gl X x) (hm : X.mg x = none) (hv : bootBuiltins x = some u) (r : RelV v u) (hn : x ≠ "__name__" := by decide) (hd : (x == ("__debug__" : Str)) = false := by decide) : PE X (.Name x pos) (tC v) :=
  fun _ _ _ H _ I h => ld_blt I hg hm hv ⟨v, H, I, r, h⟩ hn hd

/-! ### arithmetic -/
variable {a b : Expr} {ta tb : TE} {pos : Pos}
/-! ### comparisons -/
def PC (X : Cx) (op : CmpOp) (a b : Expr) (t : TE) : Prop :=
  ∀ (pins : List (Addr × Obj)) (s : Shared) (σ : St) (H : Hp) (Q : VK), Inv X pins σ H s → t σ H Q →
    wpAny (model X.prog X.w) X.A (eval a X.env) (fun v s₁ => wpAny (model X.prog X.w) X.A (eval b X.env) (fun u s₂ => wpAny (model X.prog X.w) X.A (compareOp op v u) (EP X pins σ Q) X.xe s₂) X.xe s₁) X.xe s
theorem nobehind (b : Expr) {op : CmpOp} (h : op ≠ .In) (h2 : op ≠ .NotIn) : behindInMarks op b = false := by
  have e1 : (op == CmpOp.In) = false := by cases op <;> first | rfl | exact absurd rfl h
  have e2 : (op == CmpOp.NotIn) = false := by cases op <;> first | rfl | exact absurd rfl h2
  cases b <;> simp [behindInMarks, e1, e2]
/-- a comparison as a value, as a test -/
def tB (t : TE) : TT := fun σ H Q => t σ H fun x H1 => ∃ c, x = .bl c ∧ Q c H1
theorem pt_cmp {op : CmpOp} {t : TE} (h : PC X op a b t) (h1 : behindInMarks op b = false := by first | exact nobehind _ (by decide) (by decide) | rfl) : PT X (.Compare a [op] [b] pos) (tB t) := by
  intro pins s σ H Q I hw
  refine wpAny_isTrue_Compare1 (thn (h pins s σ H _ I hw) fun v s1 h1 => thn h1 fun u s2 h2 => thn h2 fun c s3 ⟨x, H1, I1, r1, q1⟩ => ?_) h1
  obtain ⟨d, rfl, q⟩ := q1
  cases r1
  exact wpAny_truthy_bool ⟨H1, I1, q⟩
/-- an expression whose value is a bool, as a test -/
theorem pt_val {e : Expr} {t : TE} (h : PE X e t) (he : ∀ whole, isTrue e X.env whole = (do let v ← whole; standAt e.pos; holding [v] (truthy v)) := by intro _; rfl) : PT X e (tB t) := by
  intro pins s σ H Q I hw
  refine isTrue_plain (thn (h pins s σ H _ I hw) fun v s1 ⟨x, H1, I1, r1, q1⟩ => ?_) (he _)
  obtain ⟨d, rfl, q⟩ := q1
  cases r1
  exact wpAny_truthy_bool ⟨H1, I1, q⟩

/-! ### and, or, not -/
variable {tA tB' : TT} {rest : List Expr}
def tAnd (t u : TT) : TT := fun σ H Q => t σ H fun c H1 => if c = true then u σ H1 Q else Q false H1
def tOr (t u : TT) : TT := fun σ H Q => t σ H fun c H1 => if c = true then Q true H1 else u σ H1 Q
def tNot (t : TT) : TT := fun σ H Q => t σ H fun c H1 => Q (!c) H1
theorem pw_and1 (ha : PT X a tA) : PW X (.BoolOp .And [a] pos) tA := by
  intro wh pins s σ H Q I h
  refine isTrue_and (thn (ha pins s σ H Q I h) fun c s1 e => ?_)
  cases c with
  | true => exact isTrue_and_nil e
  | false => exact e
theorem pw_or1 (ha : PT X a tA) : PW X (.BoolOp .Or [a] pos) tA := by
  intro wh pins s σ H Q I h
  refine isTrue_or (thn (ha pins s σ H Q I h) fun c s1 e => ?_)
  cases c with
  | false => exact isTrue_or_nil e
  | true => exact e
theorem pw_and (ha : PT X a tA) (hb : PW X (.BoolOp .And (b :: rest) pos) tB') : PW X (.BoolOp .And (a :: b :: rest) pos) (tAnd tA tB') := by
  intro wh pins s σ H Q I h
  refine isTrue_and (thn (ha pins s σ H _ I h) fun c s1 ⟨H1, I1, q1⟩ => ?_)
  cases c with
  | true => exact hb wh pins s1 σ H1 Q I1 q1
  | false => exact ⟨H1, I1, q1⟩
theorem pw_or (ha : PT X a tA) (hb : PW X (.BoolOp .Or (b :: rest) pos) tB') : PW X (.BoolOp .Or (a :: b :: rest) pos) (tOr tA tB') := by
  intro wh pins s σ H Q I h
  refine isTrue_or (thn (ha pins s σ H _ I h) fun c s1 ⟨H1, I1, q1⟩ => ?_)
  cases c with
  | true => exact ⟨H1, I1, q1⟩
  | false => exact hb wh pins s1 σ H1 Q I1 q1
theorem pt_not (ha : PT X a tA) : PT X (.UnaryOp .Not a pos) (tNot tA) := by
  intro pins s σ H Q I h
  exact isTrue_not (ha pins s σ H (fun c H1 => Q (!c) H1) I h)
/-- a if t else b -/
def tIf (t : TT) (ta tb : TE) : TE := fun σ H Q => t σ H fun c H1 => if c = true then ta σ H1 Q else tb σ H1 Q
end
end L2

namespace L2
open PySem PySem.Spec PyProof.Rows

/-! ### a list, a tuple that is read: tracked, frozen, or an object of the module -/
def SqL (K : PySem.W.Frag) (H : Hp) (a : Addr) (xs : List V) : Prop :=
  Rd H a (.lst xs) ∨
    ∃ (o : Obj) (its : Array Value) (n : Nat), K.lookup a = some o ∧ o.cls = .type "list" ∧ o.dict = none ∧ o.data = .seq its n ∧ its.size ≤ sizeLine ∧ Vals xs its.toList
def SqT (K : PySem.W.Frag) (H : Hp) (a : Addr) (xs : List V) : Prop :=
  Rd H a (.tup xs) ∨
    ∃ (o : Obj) (its : Array Value) (n : Nat), K.lookup a = some o ∧ o.cls = .type "tuple" ∧ o.data = .seq its n ∧ its.size ≤ sizeLine ∧ Vals xs its.toList
def absV : Value → Option V
  | .none => some .non
  | .bool b => some (.bl b)
  | .int i _ => some (.int i)
  | .str x _ => some (.str x)
  | .bytes b _ => some (.byt b)
  | .float b _ => some (.flt b)
  | .ref a => some (.ref a)
  | .type n => some (.ty n)
  | _ => none
theorem RelV.abs {x : V} {u : Value} (r : RelV x u) : absV u = some x := by
  cases x with
  | non => cases r; rfl
  | bl _ => cases r; rfl
  | int _ => obtain ⟨t, rfl⟩ := r; rfl
  | str _ => obtain ⟨t, rfl⟩ := r; rfl
  | byt _ => obtain ⟨t, rfl⟩ := r; rfl
  | flt _ => obtain ⟨t, rfl⟩ := r; rfl
  | ref _ => cases r; rfl
  | ty _ => cases r; rfl
theorem RelV.inj {x y : V} {u : Value} (r : RelV x u) (q : RelV y u) : x = y := Option.some.inj (r.abs.symm.trans q.abs)
theorem Vals.inj : ∀ {xs ys : List V} {us : List Value}, Vals xs us → Vals ys us → xs = ys
  | _, _, _, .nil, .nil => rfl
  | _, _, _, .cons r t, .cons r' t' => by rw [r.inj r', Vals.inj t t']
section
variable {X : Cx} {pins : List (Addr × Obj)} {σ : St} {H : Hp} {s : Shared} {a : Addr} {xs ys : List V}
theorem SqL.of {K : PySem.W.Frag} (h : H a = some (.lst xs)) : SqL K H a xs := .inl (.inl h)
theorem SqT.of {K : PySem.W.Frag} (h : H a = some (.tup xs)) : SqT K H a xs := .inl (.inl h)
theorem Inv.list (I : Inv X pins σ H s) (h : SqL X.K H a xs) : ∃ its : List Value, Vals xs its ∧ PlainL s.heap a its.toArray ∧ xs.length ≤ sizeLine := by
  rcases h with h | ⟨o, its, n, hk, hc, hd, hs, hz, r⟩
  · obtain ⟨z, its, n, r, e⟩ := h.ok I.hok
    exact ⟨its, r, ⟨_, n, e, rfl, rfl, rfl⟩, z⟩
  · refine ⟨its.toList, r, ⟨o, n, I.kIn a o hk, hc, hd, by simpa using hs⟩, ?_⟩
    have e := r.length
    simp only [Array.length_toList] at e
    omega
theorem Inv.tuple (I : Inv X pins σ H s) (h : SqT X.K H a xs) : ∃ its : List Value, Vals xs its ∧ IsTup s.heap a its.toArray ∧ xs.length ≤ sizeLine := by
  rcases h with h | ⟨o, its, n, hk, hc, hs, hz, r⟩
  · obtain ⟨z, its, r, p⟩ := h.ok I.hok
    exact ⟨its, r, p, z⟩
  · refine ⟨its.toList, r, ⟨o, I.kIn a o hk, hc, n, by simpa using hs⟩, ?_⟩
    have e := r.length
    simp only [Array.length_toList] at e
    omega
theorem Inv.list_inj (I : Inv X pins σ H s) (h : SqL X.K H a xs) (h' : SqL X.K H a ys) : xs = ys := by
  obtain ⟨its, r, ⟨o, n, e, _, _, d⟩, _⟩ := I.list h
  obtain ⟨its', r', ⟨o', n', e', _, _, d'⟩, _⟩ := I.list h'
  rw [e] at e'; cases e'
  rw [d] at d'
  injection d' with d1 _
  have : its = its' := by simpa using congrArg Array.toList d1
  subst this
  exact r.inj r'
theorem Inv.tuple_inj (I : Inv X pins σ H s) (h : SqT X.K H a xs) (h' : SqT X.K H a ys) : xs = ys := by
  obtain ⟨its, r, ⟨o, e, _, n, d⟩, _⟩ := I.tuple h
  obtain ⟨its', r', ⟨o', e', _, n', d'⟩, _⟩ := I.tuple h'
  rw [e] at e'; cases e'
  rw [d] at d'
  injection d' with d1 _
  have : its = its' := by simpa using congrArg Array.toList d1
  subst this
  exact r.inj r'
end

/-! ### another wish about exceptions -/
abbrev Cx.wish (X : Cx) (E : Value → Shared → Prop) : Cx := { X with xe := E }
/-- no exception leaves -/
abbrev Cx.nox (X : Cx) : Cx := X.wish fun _ _ => False
theorem Cx.Ok.wish {X : Cx} (ok : X.Ok) (E : Value → Shared → Prop) : (X.wish E).Ok :=
  ⟨ok.mod, ok.kind, ok.glob, ok.blt, ok.above, ok.inj, ok.has, ok.cab, ok.hd, ok.frames, ok.stk, ok.exf, ok.bs, ok.bsz, ok.noex, ok.exfs, ok.funs, ok.frf⟩
theorem Cx.Ok.unwish {X : Cx} {E : Value → Shared → Prop} (ok : (X.wish E).Ok) : X.Ok :=
  ⟨ok.mod, ok.kind, ok.glob, ok.blt, ok.above, ok.inj, ok.has, ok.cab, ok.hd, ok.frames, ok.stk, ok.exf, ok.bs, ok.bsz, ok.noex, ok.exfs, ok.funs, ok.frf⟩
section
variable {X : Cx} {pins : List (Addr × Obj)} {σ : St} {H : Hp} {s : Shared} {E : Value → Shared → Prop}
theorem Inv.wish (I : Inv X pins σ H s) (E : Value → Shared → Prop) : Inv (X.wish E) pins σ H s := ⟨I.ok.wish E, I.os, I.bare, I.base, I.loc, I.cell, I.free, I.freeC, I.pin, I.hok, I.len, I.tk⟩
theorem Inv.unwish (I : Inv (X.wish E) pins σ H s) : Inv X pins σ H s := ⟨I.ok.unwish, I.os, I.bare, I.base, I.loc, I.cell, I.free, I.freeC, I.pin, I.hok, I.len, I.tk⟩
theorem SP.unwish {D : Ends} {f : Flow} {s' : Shared} (h : SP (X.wish E) pins D f s') : SP X pins D f s' := by
  cases f with
  | next => obtain ⟨σ', H', I, q⟩ := h; exact ⟨σ', H', I.unwish, q⟩
  | brk => obtain ⟨σ', H', I, q⟩ := h; exact ⟨σ', H', I.unwish, q⟩
  | cont => obtain ⟨σ', H', I, q⟩ := h; exact ⟨σ', H', I.unwish, q⟩
  | ret u => obtain ⟨v, σ', H', I, r, q⟩ := h; exact ⟨v, σ', H', I.unwish, r, q⟩
theorem PE.nox {e : Expr} {t : TE} (h : PE X.nox e t) : PE X e t := fun pins s σ H Q I hw =>
  wpAny_mono (h pins s σ H Q (I.wish _) hw) (fun _ _ ⟨v, H', I', r, q⟩ => ⟨v, H', I'.unwish, r, q⟩) fun _ _ z => False.elim z
theorem PT.nox {e : Expr} {t : TT} (h : PT X.nox e t) : PT X e t := fun pins s σ H Q I hw =>
  wpAny_mono (h pins s σ H Q (I.wish _) hw) (fun _ _ ⟨H', I', q⟩ => ⟨H', I'.unwish, q⟩) fun _ _ z => False.elim z
theorem PSs.nox {st : List Stmt} {t : TS} (h : PSs X.nox st t) : PSs X st t := fun pins s σ H D I hw =>
  wpAny_mono (h pins s σ H D (I.wish _) hw) (fun _ _ q => q.unwish) fun _ _ z => False.elim z
end

/-! ### blocks and small statements -/
section
variable {X : Cx} {st : Stmt} {rest : List Stmt} {t u : TS} {e : Expr} {te : TE} {pos : Pos}
def tNext : TS := fun D σ H => D.nx σ H
def tSeq (t u : TS) : TS := fun D σ H => t { D with nx := u D } σ H
theorem pss_nil : PSs X [] tNext := fun _ _ σ H _ I h => wpAny_execs_nil ⟨σ, H, I, h⟩
theorem pss_cons (h1 : PS X st t) (h2 : PSs X rest u) : PSs X (st :: rest) (tSeq t u) := by
  intro pins s σ H D I h
  refine wpAny_execs_cons (thn (h1 pins s σ H { D with nx := u D } I h) fun f s1 q => ?_)
  cases f with
  | next =>
    obtain ⟨σ', H', I', q⟩ := q
    exact h2 pins s1 σ' H' D I' q
  | ret v => exact q
  | brk => exact q
  | cont => exact q
theorem pss_one (h1 : PS X st t) : PSs X [st] t := by
  intro pins s σ H D I h
  refine wpAny_execs_cons (thn (h1 pins s σ H D I h) fun f s1 q => ?_)
  cases f with
  | next => exact wpAny_execs_nil q
  | ret v => exact q
  | brk => exact q
  | cont => exact q
def tBreak : TS := fun D σ H => D.bk σ H
/-- in a def's body nothing is shown -/
theorem Inv.quiet {pins : List (Addr × Obj)} {σ : St} {H : Hp} {s : Shared} (I : Inv X pins σ H s) : interactive X.env = false := by simp [interactive, I.ok.kind]
/-- an expression whose value is dropped -/
def tDrop (te : TE) : TS := fun D σ H => te σ H fun _ H1 => D.nx σ H1
theorem ps_expr (he : PE X e te) (hs : swapsWith e none pos.line X.env = pure false := by rfl) : PS X (.Expr e pos) (tDrop te) := by
  intro pins s σ H D I h
  exact wpAny_Expr_any (thn (he pins s σ H _ I h) fun v s1 ⟨x, H1, I1, r1, q1⟩ => ⟨σ, H1, I1, q1⟩) I.quiet hs
def tRet (te : TE) : TS := fun D σ H => te σ H D.rt
theorem ps_ret (he : PE X e te) : PS X (.Return (some e) pos) (tRet te) := by
  intro pins s σ H D I h
  exact wpAny_Return_some (thn (he pins s σ H _ I h) fun v s1 ⟨x, H1, I1, r1, q1⟩ => ⟨x, σ, H1, I1, r1, q1⟩)
def tRetN : TS := fun D _ H => D.rt .non H
def tIfS (c : TT) (t u : TS) : TS := fun D σ H => c σ H fun b H1 => if b = true then t D σ H1 else u D σ H1
theorem ps_if {c : Expr} {a b : List Stmt} {tc : TT} (hc : PT X c tc) (ha : PSs X a t) (hb : PSs X b u) : PS X (.If c a b pos) (tIfS tc t u) := by
  intro pins s σ H D I h
  refine wpAny_If (thn (hc pins s σ H _ I h) fun d s1 ⟨H1, I1, q1⟩ => ?_)
  cases d with
  | true => exact ha pins s1 σ H1 D I1 q1
  | false => exact hb pins s1 σ H1 D I1 q1
end

/-! ### targets -/
abbrev TG := V → St → Hp → (St → Hp → Prop) → Prop
abbrev TGs := List V → St → Hp → (St → Hp → Prop) → Prop
def PG (X : Cx) (target : Expr) (t : TG) : Prop :=
  ∀ (pins : List (Addr × Obj)) (s : Shared) (σ : St) (H : Hp) (v : V) (u : Value) (Q : St → Hp → Prop), Inv X pins σ H s → RelV v u → t v σ H Q →
    wpAny (model X.prog X.w) X.A (assign target X.env u) (fun _ s' => ∃ σ' H', Inv X pins σ' H' s' ∧ Q σ' H') X.xe s
/-- several targets, one after another -/
def PGs (X : Cx) (ts : List Expr) (t : TGs) : Prop :=
  ∀ (pins : List (Addr × Obj)) (s : Shared) (σ : St) (H : Hp) (vs : List V) (us : List Value) (Q : St → Hp → Prop), Inv X pins σ H s → Vals vs us → t vs σ H Q →
    wpAny (model X.prog X.w) X.A (assignInOrder ((assignEach ts X.env).map (·.2)) us) (fun _ s' => ∃ σ' H', Inv X pins σ' H' s' ∧ Q σ' H') X.xe s
/-- o[i] = v, by values -/
abbrev TSet := V → V → V → Hp → (Hp → Prop) → Prop
section
variable {X : Cx} {pos : Pos}
def gName (i : Nat) : TG := fun v σ H Q => Q (σ.set i (some v)) H
theorem pg_name {i : Nat} {x : Str} (hN : X.N.Nodup) (hi : X.N[i]? = some x) (hx : Loc X.env.scope x) (hf : X.fn x = true ∨ X.env.scope.names.lookup x = some .local := by first | exact .inl rfl | exact .inr rfl | assumption) : PG X (.Name x pos) (gName i) := by
  intro pins s σ H v u Q I r h
  exact wpAny_assign_Name (store_ok I hN hi hx r (fun s' I' => ⟨_, H, I', h⟩) hf)
def gNil : TGs := fun vs σ H Q => vs = [] ∧ Q σ H
def gCons (t : TG) (u : TGs) : TGs := fun vs σ H Q => ∃ v r, vs = v :: r ∧ t v σ H fun σ' H' => u r σ' H' Q
theorem pgs_nil : PGs X [] gNil := by
  intro pins s σ H vs us Q I r h
  obtain ⟨e, h⟩ := h
  subst e
  cases r
  exact assignInOrder_nil ⟨σ, H, I, h⟩
theorem pgs_cons {e : Expr} {es : List Expr} {t : TG} {u : TGs} (h1 : PG X e t) (h2 : PGs X es u)
    (hs : (assignEach (e :: es) X.env).map (·.2) = assign e X.env :: (assignEach es X.env).map (·.2) := by rfl) : PGs X (e :: es) (gCons t u) := by
  intro pins s σ H vs us Q I r h
  obtain ⟨v, vr, e1, h⟩ := h
  subst e1
  cases r with
  | cons r rr =>
    rw [hs]
    refine assignInOrder_cons (thn (h1 pins s σ H _ _ _ I r h) fun _ s1 ⟨σ1, H1, I1, q1⟩ => ?_)
    exact h2 pins s1 σ1 H1 _ _ Q I1 rr q1
/-- (a, b, ..) = a tuple of that length -/
def gTup (K : PySem.W.Frag) (n : Nat) (t : TGs) : TG := fun v σ H Q => ∃ a xs, v = .ref a ∧ SqT K H a xs ∧ xs.length = n ∧ t xs σ H Q
theorem pg_tup {es : List Expr} {k : Nat} {t : TGs} {n : Nat} (hc : X.calm = true) (h : PGs X es t)
    (hn : (assignEach es X.env).length = n := by rfl) (hst : (assignEach es X.env).findIdx? (·.1) = none := by rfl) : PG X (.Tuple es k pos) (gTup X.K n t) := by
  intro pins s σ H v u Q I r hw
  obtain ⟨a, xs, e1, hq, hl, hw⟩ := hw
  subst e1
  cases r
  obtain ⟨its, rv, ht, hz⟩ := I.tuple hq
  refine assign_Tuple_tuple (I.ok.hd hc) ht (by simp [hn, ← hl, rv.length]) hst fun h' hx => ?_
  have I1 : Inv X pins σ H { s with heap := h' } := I.kept (t' := s.toks) fun b o e => hx b o (Nat.ne_of_lt (Heap.lt_size e)) e
  exact h pins _ σ H xs _ Q I1 (by simpa using rv) hw
/-- o[i] = .. -/
def gSub (to ti : TE) (t : TSet) : TG := fun v σ H Q => to σ H fun o H1 => ti σ H1 fun i H2 => t o i v H2 fun H3 => Q σ H3
/-- target = value -/
def tAsg (te : TE) (g : TG) : TS := fun D σ H => te σ H fun x H1 => g x σ H1 D.nx
/-- name = value -/
theorem ps_set {i : Nat} {x : Str} {e : Expr} {te : TE} {pos' : Pos} (hN : X.N.Nodup) (hi : X.N[i]? = some x) (hx : Loc X.env.scope x) (he : PE X e te) (hs : swapsWith e (some (.Name x pos')) pos.line X.env = pure false := by rfl) (hf : X.fn x = true ∨ X.env.scope.names.lookup x = some .local := by first | exact .inl rfl | exact .inr rfl | assumption) :
    PS X (.Assign [.Name x pos'] e pos) (tAsg te (gName i)) := by
  intro pins s σ H D I h
  refine wpAny_Assign_Name (thn (he pins s σ H _ I h) fun v s1 ⟨y, H1, I1, r1, q1⟩ => ?_) hs
  exact store_ok I1 hN hi hx r1 (fun s2 I2 => ⟨_, H1, I2, q1⟩) hf
/-- a, b = x, y with plain local names: stored from the right; the pair itself is not tracked (the opening rows as in PyProof/Rows/TupAssign.lean:23) -/
def tPar (i j : Nat) (ta : TA) : TS := fun D σ H => ta σ H fun vs H1 => ∃ v w, vs = [v, w] ∧ D.nx ((σ.set i (some v)).set j (some w)) H1
end

/-! ### while -/
section
variable {X : Cx} {pos : Pos}
end

/-! ### what a loop or a comprehension walks -/
/-- at turn i: it yields x (the heap may grow), or it stops -/
structure It where
  go : Nat → Hp → Prop
  yld : Nat → Hp → V → Hp → Prop
  stop : Nat → Hp → Prop
/-- the iterator's own objects may turn: they are not the frame's, not pinned, younger than the entry (or a comprehension's own) -/
def FpOk (X : Cx) (pins : List (Addr × Obj)) (H : Hp) (b : Addr) : Prop :=
  H b = none ∧ b ≠ X.env.locals ∧ b ∉ X.fs ∧ (b ∈ X.ex ∨ X.s₀.heap.objs.size ≤ b) ∧ (∀ x c, X.env.cells.lookup x = some c → c ≠ b) ∧ ∀ p ∈ X.pn ++ pins, p.1 ≠ b
theorem Inv.fpOk {X : Cx} {pins : List (Addr × Obj)} {σ : St} {H H' : Hp} {s : Shared} {b : Addr} (I : Inv X pins σ H s) (hb : s.heap.objs.size ≤ b) (hn : H' b = none) : FpOk X pins H' b := by
  refine ⟨hn, Nat.ne_of_gt (Nat.lt_of_lt_of_le I.lt hb), I.nofs hb, .inr (Nat.le_trans I.sz hb), fun x c e z => ?_, fun p hp z => ?_⟩
  · obtain ⟨v, q⟩ := I.cell x c e
    exact absurd (Nat.lt_of_lt_of_le q.lt (by rw [z]; exact hb)) (Nat.lt_irrefl _)
  · exact absurd (Nat.lt_of_lt_of_le (Heap.lt_size (I.pin p hp).1) (by rw [z]; exact hb)) (Nat.lt_irrefl _)
structure Turn (P : Program) (w : World) (K : PySem.W.Frag) (tg : Expr) (J : It) (fp : List Addr) (it : Addr) (tn : Nat → Heap → Prop) : Prop where
  mem : it ∈ fp
  obj : ∀ i h, tn i h → ∀ b ∈ fp, ∃ o, h.get? b = some o ∧ ∀ v, o.data ≠ .cell v
  keep : ∀ i h h', tn i h → (∀ b ∈ fp, ∀ o, h.get? b = some o → h'.get? b = some o) → tn i h'
  item : ∀ (X : Cx), X.prog = P → X.w = w → X.K = K → X.calm = true → ∀ (i : Nat) (pins : List (Addr × Obj)) (s : Shared) (σ : St) (H : Hp) (E : Value → Shared → Prop), Inv X pins σ H s → (∀ b ∈ fp, FpOk X pins H b) → tn i s.heap → J.go i H →
    wpAny (model P w) X.A (pyNext (.ref it)) (fun r s1 => ∃ u, r = some u ∧
      wpAny (model P w) X.A (letOwnedTupleGo tg (.ref it) u) (fun _ s2 => ∃ x H', Inv X pins σ H' s2 ∧ RelV x u ∧ J.yld i H x H' ∧ tn (i + 1) s2.heap ∧ ∀ b ∈ fp, H' b = none) E s1) E s
  done : ∀ (X : Cx), X.prog = P → X.w = w → X.K = K → X.calm = true → ∀ (i : Nat) (pins : List (Addr × Obj)) (s : Shared) (σ : St) (H : Hp) (E : Value → Shared → Prop), Inv X pins σ H s → (∀ b ∈ fp, FpOk X pins H b) → tn i s.heap → J.stop i H →
    wpAny (model P w) X.A (pyNext (.ref it)) (fun r s1 => r = none ∧ Inv X pins σ H s1) E s
  self : ∀ (A : Around) (i : Nat) (s : Shared) (Q : Value → Shared → Prop) (E : Value → Shared → Prop), tn i s.heap → Q (.ref it) s → wpAny (model P w) A (pyIter (.ref it)) Q E s
abbrev TI := St → Hp → (It → Hp → Prop) → Prop
/-- an iterator has come -/
def PIE (X : Cx) (pins : List (Addr × Obj)) (σ : St) (tg : Expr) (R : It → Hp → Prop) (itv : Value) (s2 : Shared) : Prop :=
  ∃ (it : Addr) (fp : List Addr) (tn : Nat → Heap → Prop) (J : It) (H' : Hp), itv = .ref it ∧ Inv X pins σ H' s2 ∧ Turn X.prog X.w X.K tg J fp it tn ∧ tn 0 s2.heap ∧ (∀ b ∈ fp, FpOk X pins H' b) ∧ R J H'
def PI (X : Cx) (tg iter : Expr) (wi : TI) : Prop :=
  ∀ (pins : List (Addr × Obj)) (s : Shared) (σ : St) (H : Hp) (R : It → Hp → Prop), Inv X pins σ H s → wi σ H R →
    wpAny (model X.prog X.w) X.A (eval iter X.env) (fun v s1 => wpAny (model X.prog X.w) X.A (pyIter v) (PIE X pins σ tg R) X.xe s1) X.xe s

/-- the step ahead of the store is nothing for an iterator that keeps no tuple -/
theorem go_of {M : Model} {A : Around} {E : Value → Shared → Prop} {s : Shared} {tg : Expr} {it : Addr} {u : Value} {o : Obj} {n : String} {vs : Array Value} {Q : Unit → Shared → Prop} (ho : s.heap.get? it = some o) (hc : o.cls = .type n) (hd : o.data = .fields vs)
    (hn : ["enumerate", "zip", "dict_itemiterator", "dict_reverseitemiterator", "odict_iterator", "itertools.zip_longest", "itertools.pairwise"].contains n = false) (hQ : Q () s) : wpAny M A (letOwnedTupleGo tg (.ref it) u) Q E s := by
  unfold letOwnedTupleGo
  cases tg <;> first
    | exact wpAny_pure hQ
    | (cases u <;> first
        | exact wpAny_pure hQ
        | (refine wpAny_bind (wpAny_load ho ?_)
           rw [hc, hd]
           show wpAny M A (if (["enumerate", "zip", "dict_itemiterator", "dict_reverseitemiterator", "odict_iterator", "itertools.zip_longest", "itertools.pairwise"].contains n && vs[0]? == some (rawInt _)) = true then _ else _) Q E s
           rw [if_neg (by intro h; rw [hn, Bool.false_and] at h; cases h)]
           exact wpAny_pure hQ))

/-- the list at a, as it stands at each turn (a loop may append to it) -/
def Itl (K : PySem.W.Frag) (a : Addr) : It :=
  ⟨fun i H => ∃ xs x, SqL K H a xs ∧ xs[i]? = some x, fun i H x H' => H' = H ∧ ∀ xs, SqL K H a xs → xs[i]? = some x, fun i H => ∃ xs, SqL K H a xs ∧ xs.length ≤ i⟩
def Itt (K : PySem.W.Frag) (a : Addr) : It :=
  ⟨fun i H => ∃ xs x, SqT K H a xs ∧ xs[i]? = some x, fun i H x H' => H' = H ∧ ∀ xs, SqT K H a xs → xs[i]? = some x, fun i H => ∃ xs, SqT K H a xs ∧ xs.length ≤ i⟩
/-- lo, lo + 1, .. (n of them) -/
def Itr (lo : Int) (n : Nat) : It := ⟨fun i _ => i < n, fun i H x H' => H' = H ∧ x = .int (lo + i), fun i _ => n ≤ i⟩
theorem turn_list {P : Program} {w : World} {K : PySem.W.Frag} {tg : Expr} (a it : Addr) : Turn P w K tg (Itl K a) [it] it (fun i h => h.IsListIter it a i) where
  mem := by simp
  obj := fun i h st b hb => by
    have e : b = it := by simpa using hb
    subst e
    obtain ⟨o, e, c, d⟩ := st
    exact ⟨o, e, fun v z => by rw [d] at z; cases z⟩
  keep := fun i h h' st k => st.at fun o e => k it (by simp) o e
  item := by
    intro X hP hw hK hc i pins s σ H E I hf st hg
    subst hP hw hK
    obtain ⟨xs, x, hq, hx⟩ := hg
    obtain ⟨its, rv, p, hz⟩ := I.list hq
    obtain ⟨u, hu, ru⟩ := rv.get hx
    obtain ⟨f0, f1, f2, f3, f4, f5⟩ := hf it (by simp)
    refine wpAny_pyNext_list_item st p.isList (x := u) (by simpa using hu) fun h' st' sb => ?_
    have I1 : Inv X pins σ H { s with heap := h' } := I.turned (t' := s.toks) (fun b o hb e => (sb.2 b hb).trans e) f0 f1 f3 f4 f5
    obtain ⟨o, e, c, d⟩ := id st'
    exact ⟨u, rfl, go_of (s := { s with heap := h' }) e c d (by decide) ⟨x, H, I1, ru, ⟨rfl, fun ys hy => by rw [I.list_inj hy hq]; exact hx⟩, st', fun b hb => (hf b hb).1⟩⟩
  done := by
    intro X hP hw hK hc i pins s σ H E I hf st hg
    subst hP hw hK
    obtain ⟨xs, hq, hx⟩ := hg
    obtain ⟨its, rv, p, hz⟩ := I.list hq
    obtain ⟨f0, f1, f2, f3, f4, f5⟩ := hf it (by simp)
    have hl := rv.length
    exact wpAny_pyNext_list_end (I.ok.hd hc) st p.isList (by simp; omega) fun h' eb => ⟨rfl, I.turned (t' := s.toks) (fun b o hb e => eb b o hb e) f0 f1 f3 f4 f5⟩
  self := fun _ _ _ _ _ st h => wpAny_pyIter_listiter st h
theorem turn_tuple {P : Program} {w : World} {K : PySem.W.Frag} {tg : Expr} (a it : Addr) : Turn P w K tg (Itt K a) [it] it (fun i h => h.IsTupleIter it a i) where
  mem := by simp
  obj := fun i h st b hb => by
    have e : b = it := by simpa using hb
    subst e
    obtain ⟨o, e, c, d⟩ := st
    exact ⟨o, e, fun v z => by rw [d] at z; cases z⟩
  keep := fun i h h' st k => st.at fun o e => k it (by simp) o e
  item := by
    intro X hP hw hK hc i pins s σ H E I hf st hg
    subst hP hw hK
    obtain ⟨xs, x, hq, hx⟩ := hg
    obtain ⟨its, rv, p, hz⟩ := I.tuple hq
    obtain ⟨u, hu, ru⟩ := rv.get hx
    obtain ⟨f0, f1, f2, f3, f4, f5⟩ := hf it (by simp)
    refine wpAny_pyNext_tuple_item st (show s.heap.IsTuple a its.toArray from p) (x := u) (by simpa using hu) fun h' st' sb => ?_
    have I1 : Inv X pins σ H { s with heap := h' } := I.turned (t' := s.toks) (fun b o hb e => (sb.2 b hb).trans e) f0 f1 f3 f4 f5
    obtain ⟨o, e, c, d⟩ := id st'
    exact ⟨u, rfl, go_of (s := { s with heap := h' }) e c d (by decide) ⟨x, H, I1, ru, ⟨rfl, fun ys hy => by rw [I.tuple_inj hy hq]; exact hx⟩, st', fun b hb => (hf b hb).1⟩⟩
  done := by
    intro X hP hw hK hc i pins s σ H E I hf st hg
    subst hP hw hK
    obtain ⟨xs, hq, hx⟩ := hg
    obtain ⟨its, rv, p, hz⟩ := I.tuple hq
    obtain ⟨f0, f1, f2, f3, f4, f5⟩ := hf it (by simp)
    have hl := rv.length
    exact wpAny_pyNext_tuple_end (I.ok.hd hc) st (show s.heap.IsTuple a its.toArray from p) (by simp; omega) fun h' eb => ⟨rfl, I.turned (t' := s.toks) (fun b o hb e => eb b o hb e) f0 f1 f3 f4 f5⟩
  self := fun _ _ _ _ _ st h => wpAny_pyIter_tupleiter st h
theorem turn_range {P : Program} {w : World} {K : PySem.W.Frag} {tg : Expr} (it : Addr) (lo : Int) (n : Nat) : Turn P w K tg (Itr lo n) [it] it (fun i h => IsRangeIter h it (lo + (i : Nat) * 1) ((n : Int) - (i : Nat)) 1) where
  mem := by simp
  obj := fun i h st b hb => by
    have e : b = it := by simpa using hb
    subst e
    exact ⟨_, st, fun v z => by
      have z' : Data.fields _ = Data.cell v := z
      cases z'⟩
  keep := fun i h h' st k => k it (by simp) _ st
  item := by
    intro X hP hw hK hc i pins s σ H E I hf st hg
    subst hP hw hK
    obtain ⟨f0, f1, f2, f3, f4, f5⟩ := hf it (by simp)
    have W := Walks.range (prog := X.prog) (w := X.w) (I.ok.hd hc) it lo 1 n
    refine tokQ I.tk (W.item i s _ _ hg st fun v h' tk hv st' kk (htk : 0 < tk) => ?_)
    obtain ⟨t, rfl⟩ := hv
    have I1 : Inv X pins σ H { s with heap := h', toks := tk } := I.turned (fun b o hb e => kk b o (by simpa using hb) e) f0 f1 f3 f4 f5
    refine ⟨_, rfl, go_of (s := { s with heap := h', toks := tk }) (n := "range_iterator") st' rfl rfl (by decide) ⟨.int (lo + i), H, I1, ⟨t, ?_⟩, ⟨rfl, rfl⟩, st', fun b hb => (hf b hb).1⟩⟩
    rw [Int.mul_one]
  done := by
    intro X hP hw hK hc i pins s σ H E I hf st hg
    subst hP hw hK
    obtain ⟨f0, f1, f2, f3, f4, f5⟩ := hf it (by simp)
    exact wpAny_pyNext_range_end (I.ok.hd hc) st (by have : n ≤ i := hg; omega) fun h' eb => ⟨rfl, I.turned (t' := s.toks) (fun b o hb e => eb b o hb e) f0 f1 f3 f4 f5⟩
  self := fun _ _ _ _ _ st h => wpAny_pyIter_rangeiter st h
end L2

namespace L2
open PySem PySem.Spec PyProof.Rows
section
variable {X : Cx} {tg : Expr}
/-- a range object just made, walked -/
theorem range_it {pins : List (Addr × Obj)} {σ : St} {H : Hp} {s : Shared} {R : It → Hp → Prop} {E : Value → Shared → Prop} {lo hi : Int} {t u v : Tok} {tk : Nat} (I : Inv X pins σ H s) (h1 : -(2 ^ 62) ≤ lo) (h2 : lo < 2 ^ 62) (h3 : -(2 ^ 62) ≤ hi) (h4 : hi < 2 ^ 62)
    (q : R (Itr lo (hi - lo).toNat) H) (htk : 0 < tk := by first | assumption | exact Nat.succ_pos _ | (apply Inv.tk; assumption) | omega) : wpAny (model X.prog X.w) X.A (pyIter (.ref s.heap.objs.size)) (PIE X pins σ tg R) E { s with heap := s.heap.push { cls := .type "range", data := .fields #[.int lo t, .int hi u, .int 1 v] }, toks := tk } := by
  refine wpAny_pyIter_range (IsRange.new ..) (small_one h1 h2 h3 h4) ?_
  have I1 : Inv X pins σ H { s with heap := s.heap.push { cls := .type "range", data := .fields #[.int lo t, .int hi u, .int 1 v] }, toks := tk } := I.kept fun b o e => Heap.get?_push_of_some _ e
  refine ⟨(s.heap.push { cls := .type "range", data := .fields #[.int lo t, .int hi u, .int 1 v] }).objs.size, [(s.heap.push { cls := .type "range", data := .fields #[.int lo t, .int hi u, .int 1 v] }).objs.size], _, _, H, rfl,
    I1.kept (t' := tk) fun b o e => Heap.get?_push_of_some _ e, turn_range _ lo (hi - lo).toNat, ?_, fun b hb => ?_, q⟩
  · have e1 : lo + ((0 : Nat) : Int) * 1 = lo := by simp
    have e2 : (((hi - lo).toNat : Nat) : Int) - ((0 : Nat) : Int) = Builtin.Range.rangeSize lo hi 1 := by rw [rangeSize_one]; split <;> omega
    show IsRangeIter _ _ (lo + ((0 : Nat) : Int) * 1) ((((hi - lo).toNat : Nat) : Int) - ((0 : Nat) : Int)) 1
    rw [e1, e2]
    exact Heap.get?_push_size _ rfl
  · have e : b = (s.heap.push { cls := .type "range", data := .fields #[.int lo t, .int hi u, .int 1 v] }).objs.size := by simpa using hb
    subst e
    exact I1.fpOk (Nat.le_refl _) (I1.hok.fresh (Nat.le_refl _))
def iRng1 (ta : TA) : TI := fun σ H R => ta σ H fun vs H1 => ∃ j : Int, vs = [.int j] ∧ -(2 ^ 62) ≤ j ∧ j < 2 ^ 62 ∧ R (Itr 0 j.toNat) H1
theorem pi_range1 {a : Expr} {ta : TA} {p pos : Pos} (hg : Gl X "range") (hm : X.mg "range" = none) (ha : PA X [a] ta) (hs : starEach [a] X.env = [(false, eval a X.env)] := by rfl) : PI X tg (.Call (.Name "range" p) [a] [] pos) (iRng1 ta) := by
  intro pins s σ H R I h
  refine Call_ (ld_blt I hg hm boot_range (PyProof.Rows.callWith_type1 (thn (ha pos pins s σ H _ I h) fun us s1 ⟨vs, H1, I1, r1, q1⟩ => ?_) hs rfl))
  obtain ⟨j, e, q1, q2, q⟩ := q1
  subst e
  cases r1 with
  | cons r rr =>
    cases rr
    obtain ⟨t, rfl⟩ := r
    exact call_range_1 (range_it I1 (by omega) (by omega) q1 q2 (by simpa using q))
/-! ### for -/
/-- W: the invariant by the turn and a measure; N: what the body is to reach -/
def tFor (wi : TI) (g : TG) (tb : TS) : TS := fun D σ H => wi σ H fun J H1 => ∃ W : Nat → Nat → St → Hp → Prop, (∃ m, W 0 m σ H1) ∧ ∀ i m σ H, W i m σ H →
  (J.stop i H ∧ D.nx σ H) ∨ (J.go i H ∧ ∃ N : St → Hp → Prop, (∀ σ' H', N σ' H' → ∃ m', m' < m ∧ W (i + 1) m' σ' H') ∧ ∀ x H', J.yld i H x H' → g x σ H' fun σ2 H2 => tb { D with nx := N, ct := N, bk := D.nx } σ2 H2)
/-- the records at fp as they stand -/
def pinsAt (fp : List Addr) (h : Heap) : List (Addr × Obj) := fp.filterMap fun b => (h.get? b).map fun o => (b, o)
theorem mem_pinsAt {fp : List Addr} {h : Heap} {b : Addr} {o : Obj} (hb : b ∈ fp) (e : h.get? b = some o) : (b, o) ∈ pinsAt fp h := List.mem_filterMap.mpr ⟨b, hb, by rw [e]; rfl⟩
theorem of_pinsAt {fp : List Addr} {h : Heap} {p : Addr × Obj} (hp : p ∈ pinsAt fp h) : p.1 ∈ fp ∧ h.get? p.1 = some p.2 := by
  obtain ⟨b, hb, e⟩ := List.mem_filterMap.mp hp
  cases q : h.get? b with
  | none => rw [q] at e; cases e
  | some o =>
    rw [q] at e
    have e' : (b, o) = p := Option.some.inj e
    subst e'
    exact ⟨hb, q⟩
theorem Inv.pinned {pins : List (Addr × Obj)} {σ : St} {H : Hp} {s : Shared} {fp : List Addr} (I : Inv X pins σ H s) (hf : ∀ b ∈ fp, FpOk X pins H b) (ho : ∀ b ∈ fp, ∃ o, s.heap.get? b = some o ∧ ∀ v, o.data ≠ .cell v) : Inv X (pins ++ pinsAt fp s.heap) σ H s :=
  I.pins_of fun p hp => (List.mem_append.mp hp).elim (fun z => I.pin p (List.mem_append_right _ z)) fun z => by
    obtain ⟨hb, e⟩ := of_pinsAt z
    obtain ⟨f0, f1, f2, _⟩ := hf p.1 hb
    obtain ⟨o, e', d⟩ := ho p.1 hb
    rw [e] at e'; cases e'
    exact ⟨e, f0, f1, f2, d⟩
theorem Inv.unpinned {pins pl : List (Addr × Obj)} {σ : St} {H : Hp} {s : Shared} (I : Inv X (pins ++ pl) σ H s) : Inv X pins σ H s := I.pins_of fun p hp => I.pin p (List.mem_append_right _ (List.mem_append_left _ hp))
theorem ps_for {iter : Expr} {body : List Stmt} {wi : TI} {g : TG} {tb : TS} {pos : Pos} (hp : PassesOwn (model X.prog X.w) X.A X.env X.xe) (hc : X.calm = true) (hi : PI X tg iter wi) (hg : PG X tg g) (hb : PSs X body tb)
    (hs : ∀ x, foldedSetIterable iter X.env x = pure x := by intro _; rfl) : PS X (.For tg iter body [] pos) (tFor wi g tb) := by
  intro pins s σ H D I h
  refine wpAny_For (thn (hi pins s σ H _ I h) fun v s1 h1 => thn h1 fun itv s2 h2 => ?_) hs
  obtain ⟨it, fp, tn, J, H2, e, I2, T, st2, f2, W, ⟨m0, w0⟩, turn⟩ := h2
  subst e
  -- what stays true of the iterator's objects through the loop
  have stat : ∀ {H' : Hp}, (∀ b ∈ fp, H' b = none) → ∀ b ∈ fp, FpOk X pins H' b := fun hn b hb => ⟨hn b hb, (f2 b hb).2⟩
  refine codeAny_forLoop_any (fun n s' => ∃ i σ' H', Inv X pins σ' H' s' ∧ tn i s'.heap ∧ (∀ b ∈ fp, H' b = none) ∧ W i n σ' H') ?_ m0 ⟨0, σ, H2, I2, st2, fun b hb => (f2 b hb).1, w0⟩
  rintro n s3 ⟨i, σ3, H3, I3, st3, fr3, w3⟩
  rcases turn i n σ3 H3 w3 with ⟨stop, qn⟩ | ⟨go, N, hN, step⟩
  · refine wpAny_passesOwn hp (thn (T.done X rfl rfl rfl hc i pins s3 σ3 H3 X.xe I3 (stat fr3) st3 stop) fun r s4 ⟨hr, I4⟩ => ?_)
    subst hr
    exact wpAny_execs_nil ⟨σ3, H3, I4, qn⟩
  · refine wpAny_passesOwn hp (thn (T.item X rfl rfl rfl hc i pins s3 σ3 H3 X.xe I3 (stat fr3) st3 go) fun r s4 ⟨u, hr, h4⟩ => ?_)
    subst hr
    refine wpAny_passesOwn hp (thn h4 fun _ s5 ⟨x, H5, I5, r5, y5, st5, fr5⟩ => ?_)
    have I5' := I5.pinned (stat fr5) (T.obj _ _ st5)
    refine wpAny_passesOwn hp (thn (hg _ s5 σ3 H5 x u _ I5' r5 (step x H5 y5)) fun _ s6 ⟨σ6, H6, I6, q6⟩ => ?_)
    refine wpAny_passesOwn hp (thn (hb _ s6 σ6 H6 _ I6 q6) fun f s7 q7 => ?_)
    have again : ∀ {σ7 : St} {H7 : Hp}, Inv X (pins ++ pinsAt fp s5.heap) σ7 H7 s7 → N σ7 H7 → ∃ m, m < n ∧ ∃ i σ' H', Inv X pins σ' H' s7 ∧ tn i s7.heap ∧ (∀ b ∈ fp, H' b = none) ∧ W i m σ' H' := fun {σ7 H7} I7 n7 => by
      obtain ⟨m', hm, w7⟩ := hN σ7 H7 n7
      refine ⟨m', hm, i + 1, σ7, H7, I7.unpinned, T.keep _ _ _ st5 fun b hb o e => (I7.pin (b, o) (List.mem_append_right _ (List.mem_append_right _ (mem_pinsAt hb e)))).1, fun b hb => ?_, w7⟩
      obtain ⟨o, e, d⟩ := T.obj _ _ st5 b hb
      exact (I7.pin (b, o) (List.mem_append_right _ (List.mem_append_right _ (mem_pinsAt hb e)))).2.1
    cases f with
    | next => obtain ⟨σ7, H7, I7, n7⟩ := q7; exact again I7 n7
    | cont => obtain ⟨σ7, H7, I7, n7⟩ := q7; exact again I7 n7
    | brk => obtain ⟨σ7, H7, I7, q7⟩ := q7; exact ⟨σ7, H7, I7.unpinned, q7⟩
    | ret v => obtain ⟨x7, σ7, H7, I7, r7, q7⟩ := q7; exact ⟨x7, σ7, H7, I7.unpinned, r7, q7⟩
end

/-! ### the forms one uses -/
/-- over a list that the body leaves as it is -/
theorem for_list {K : PySem.W.Frag} {a : Addr} {xs : List V} {g : TG} {tb : TS} {D : Ends} {σ : St} {H : Hp} (Pv : Nat → St → Hp → Prop) (h0 : Pv 0 σ H) (hl : ∀ i σ H, i ≤ xs.length → Pv i σ H → SqL K H a xs)
    (hs : ∀ i x σ H, xs[i]? = some x → Pv i σ H → g x σ H fun σ2 H2 => tb { D with nx := Pv (i + 1), ct := Pv (i + 1), bk := D.nx } σ2 H2) (hd : ∀ σ H, Pv xs.length σ H → D.nx σ H) :
    ∃ W : Nat → Nat → St → Hp → Prop, (∃ m, W 0 m σ H) ∧ ∀ i m σ H, W i m σ H →
      ((Itl K a).stop i H ∧ D.nx σ H) ∨ ((Itl K a).go i H ∧ ∃ N : St → Hp → Prop, (∀ σ' H', N σ' H' → ∃ m', m' < m ∧ W (i + 1) m' σ' H') ∧ ∀ x H', (Itl K a).yld i H x H' → g x σ H' fun σ2 H2 => tb { D with nx := N, ct := N, bk := D.nx } σ2 H2) := by
  refine ⟨fun i m σ H => m = xs.length - i ∧ i ≤ xs.length ∧ Pv i σ H, ⟨xs.length, by simp, Nat.zero_le _, h0⟩, ?_⟩
  rintro i m σ H ⟨rfl, hi, p⟩
  have q := hl i σ H hi p
  by_cases hlt : i < xs.length
  · refine .inr ⟨⟨xs, xs[i], q, by simp [hlt]⟩, Pv (i + 1), fun σ' H' p' => ⟨xs.length - (i + 1), by omega, rfl, hlt, p'⟩, fun x H' y => ?_⟩
    obtain ⟨e, y⟩ := y
    subst e
    exact hs i x σ _ (y xs q) p
  · have e : i = xs.length := by omega
    subst e
    exact .inl ⟨⟨xs, q, Nat.le_refl _⟩, hd σ H p⟩
theorem for_range {lo : Int} {n : Nat} {g : TG} {tb : TS} {D : Ends} {σ : St} {H : Hp} (Pv : Nat → St → Hp → Prop) (h0 : Pv 0 σ H)
    (hs : ∀ i σ H, i < n → Pv i σ H → g (.int (lo + i)) σ H fun σ2 H2 => tb { D with nx := Pv (i + 1), ct := Pv (i + 1), bk := D.nx } σ2 H2) (hd : ∀ σ H, Pv n σ H → D.nx σ H) :
    ∃ W : Nat → Nat → St → Hp → Prop, (∃ m, W 0 m σ H) ∧ ∀ i m σ H, W i m σ H →
      ((Itr lo n).stop i H ∧ D.nx σ H) ∨ ((Itr lo n).go i H ∧ ∃ N : St → Hp → Prop, (∀ σ' H', N σ' H' → ∃ m', m' < m ∧ W (i + 1) m' σ' H') ∧ ∀ x H', (Itr lo n).yld i H x H' → g x σ H' fun σ2 H2 => tb { D with nx := N, ct := N, bk := D.nx } σ2 H2) := by
  refine ⟨fun i m σ H => m = n - i ∧ i ≤ n ∧ Pv i σ H, ⟨n, by simp, Nat.zero_le _, h0⟩, ?_⟩
  rintro i m σ H ⟨rfl, hi, p⟩
  by_cases hlt : i < n
  · refine .inr ⟨hlt, Pv (i + 1), fun σ' H' p' => ⟨n - (i + 1), by omega, rfl, hlt, p'⟩, fun x H' y => ?_⟩
    obtain ⟨e, y⟩ := y
    subst e y
    exact hs i σ _ hlt p
  · have e : i = n := by omega
    subst e
    exact .inl ⟨Nat.le_refl _, hd σ H p⟩
end L2

namespace L2
open PySem PySem.Spec PyProof.Rows

abbrev R2 := V → V → Hp → VK → Prop
/-- a two-place operation on values: f is binaryOp op, inplaceOp op or compareOp op -/
def OpR (X : Cx) (f : Value → Value → Sem Value) (r : R2) : Prop :=
  ∀ (pins : List (Addr × Obj)) (s : Shared) (σ : St) (H : Hp) (x y : V) (v u : Value) (Q : VK), Inv X pins σ H s → RelV x v → RelV y u → r x y H Q →
    wpAny (model X.prog X.w) X.A (f v u) (EP X pins σ Q) X.xe s
/-- a one-place operation -/
def UnR (X : Cx) (f : Value → Sem Value) (r : V → Hp → VK → Prop) : Prop :=
  ∀ (pins : List (Addr × Obj)) (s : Shared) (σ : St) (H : Hp) (x : V) (v : Value) (Q : VK), Inv X pins σ H s → RelV x v → r x H Q →
    wpAny (model X.prog X.w) X.A (f v) (EP X pins σ Q) X.xe s
/-- a call of a value that is known (a builtin, a type) with values -/
def CallR (X : Cx) (f : Value) (r : List V → Hp → VK → Prop) : Prop :=
  ∀ (pins : List (Addr × Obj)) (s : Shared) (σ : St) (H : Hp) (xs : List V) (us : List Value) (Q : VK), Inv X pins σ H s → Vals xs us → r xs H Q →
    wpAny (model X.prog X.w) X.A (call f us) (EP X pins σ Q) X.xe s
def tOp (r : R2) (ta tb : TE) : TE := fun σ H Q => ta σ H fun x H1 => tb σ H1 fun y H2 => r x y H2 Q
def tUn (r : V → Hp → VK → Prop) (ta : TE) : TE := fun σ H Q => ta σ H fun x H1 => r x H1 Q
/-- ints in, under C, and a value out -/
def rI (C : Int → Int → Prop) (g : Int → Int → V) : R2 := fun x y H Q => ∃ i j, x = .int i ∧ y = .int j ∧ C i j ∧ Q (g i j) H
def rI0 (g : Int → Int → V) : R2 := fun x y H Q => ∃ i j, x = .int i ∧ y = .int j ∧ Q (g i j) H
def rU (g : Int → V) : V → Hp → VK → Prop := fun x H Q => ∃ i, x = .int i ∧ Q (g i) H

section
variable {X : Cx} {a b c : Expr} {ta tb tc : TE} {pos : Pos}

theorem binT (ha : PE X a ta) (hb : PE X b tb) {pins : List (Addr × Obj)} {s : Shared} {σ : St} {H : Hp} {R : V → V → Hp → Prop} (I : Inv X pins σ H s)
    (h : ta σ H fun x H1 => tb σ H1 fun y H2 => R x y H2) {Q : Value → Shared → Prop} {f : Value → Value → Sem Value}
    (hf : ∀ v u s2 x y H2, Inv X pins σ H2 s2 → RelV x v → RelV y u → R x y H2 → wpAny (model X.prog X.w) X.A (f v u) Q X.xe s2) :
    wpAny (model X.prog X.w) X.A (eval a X.env) (fun v s₁ => wpAny (model X.prog X.w) X.A (eval b X.env) (fun u s₂ => wpAny (model X.prog X.w) X.A (f v u) Q X.xe s₂) X.xe s₁) X.xe s := by
  refine thn (ha pins s σ H _ I h) fun v s1 ⟨x, H1, I1, r1, q1⟩ => ?_
  refine thn (hb pins s1 σ H1 _ I1 q1) fun u s2 ⟨y, H2, I2, r2, q2⟩ => ?_
  exact hf v u s2 x y H2 I2 r1 r2 q2

theorem pe_op {op : Operator} {r : R2} (ho : OpR X (binaryOp op) r) (ha : PE X a ta) (hb : PE X b tb) : PE X (.BinOp a op b pos) (tOp r ta tb) := by
  intro pins s σ H Q I h
  exact wpAny_BinOp (binT ha hb I h fun v u s2 x y H2 I2 rx ry q => ho pins s2 σ H2 x y v u Q I2 rx ry q)
theorem pe_un {op : UnaryOp} {r : V → Hp → VK → Prop} (ho : UnR X (unaryOp op) r) (ha : PE X a ta) : PE X (.UnaryOp op a pos) (tUn r ta) := by
  intro pins s σ H Q I h
  exact UnaryOp_ (thn (ha pins s σ H _ I h) fun v s1 ⟨x, H1, I1, r1, q1⟩ => ho pins s1 σ H1 x v Q I1 r1 q1)
/-! ### ints -/
theorem opI {f : Value → Value → Sem Value} {C : Int → Int → Prop} {g : Int → Int → Int}
    (rule : ∀ (i j : Int) (t u : Tok) (s : Shared) (Q : Value → Shared → Prop) (E : Value → Shared → Prop), C i j → Q (.int (g i j) s.toks) { s with toks := s.toks + 1 } → wpAny (model X.prog X.w) X.A (f (.int i t) (.int j u)) Q E s) :
    OpR X f (rI C fun i j => .int (g i j)) := by
  intro pins s σ H x y v u Q I rx ry h
  obtain ⟨i, j, rfl, rfl, hc, q⟩ := h
  obtain ⟨t, rfl⟩ := rx
  obtain ⟨t', rfl⟩ := ry
  exact rule i j t t' s _ _ hc ⟨.int (g i j), H, I.tok _, ⟨_, rfl⟩, q⟩
theorem opI0 {f : Value → Value → Sem Value} {g : Int → Int → Int}
    (rule : ∀ (i j : Int) (t u : Tok) (s : Shared) (Q : Value → Shared → Prop) (E : Value → Shared → Prop), Q (.int (g i j) s.toks) { s with toks := s.toks + 1 } → wpAny (model X.prog X.w) X.A (f (.int i t) (.int j u)) Q E s) :
    OpR X f (rI0 fun i j => .int (g i j)) := by
  intro pins s σ H x y v u Q I rx ry h
  obtain ⟨i, j, rfl, rfl, q⟩ := h
  obtain ⟨t, rfl⟩ := rx
  obtain ⟨t', rfl⟩ := ry
  exact rule i j t t' s _ _ ⟨.int (g i j), H, I.tok _, ⟨_, rfl⟩, q⟩
theorem opB0 {f : Value → Value → Sem Value} {g : Int → Int → Bool}
    (rule : ∀ (i j : Int) (t u : Tok) (s : Shared) (Q : Value → Shared → Prop) (E : Value → Shared → Prop), Q (.bool (g i j)) s → wpAny (model X.prog X.w) X.A (f (.int i t) (.int j u)) Q E s) :
    OpR X f (rI0 fun i j => .bl (g i j)) := by
  intro pins s σ H x y v u Q I rx ry h
  obtain ⟨i, j, rfl, rfl, q⟩ := h
  obtain ⟨t, rfl⟩ := rx
  obtain ⟨t', rfl⟩ := ry
  exact rule i j t t' s _ _ ⟨.bl (g i j), H, I, rfl, q⟩

def CDiv (i j : Int) : Prop := 0 < j ∧ j < 1073741824
def CPow (i j : Int) : Prop := 0 ≤ j ∧ j ≤ 1000000 ∧ i.natAbs < 2 ^ 64
def CMul (i j : Int) : Prop := (-(2 ^ 64) < i ∧ i < 2 ^ 64) ∨ (-(2 ^ 64) < j ∧ j < 2 ^ 64)
theorem CMul.ok {i j : Int} (h : CMul i j) : IntMulOk i j := by
  rcases h with ⟨h1, h2⟩ | ⟨h1, h2⟩
  · exact .of_left (intBits_le_64 h1 h2)
  · exact .of_right (intBits_le_64 h1 h2)
theorem op_add : OpR X (binaryOp .Add) (rI0 fun i j => .int (i + j)) := opI0 fun _ _ _ _ _ _ _ q => add_int q
theorem op_sub : OpR X (binaryOp .Sub) (rI0 fun i j => .int (i - j)) := opI0 fun _ _ _ _ _ _ _ q => sub_int q
theorem op_mul : OpR X (binaryOp .Mult) (rI CMul fun i j => .int (i * j)) := opI fun _ _ _ _ _ _ _ hc q => mul_int q hc.ok
/-- // by a positive divisor -/
theorem op_fdiv : OpR X (binaryOp .FloorDiv) (rI CDiv fun i j => .int (i / j)) := opI fun i j _ _ _ _ _ hc q => by
  have h1 : (0 : Int) < j := hc.1
  have h2 : j < 1073741824 := hc.2
  exact floordiv_int (by omega) (by rw [Int.fdiv_eq_ediv_of_nonneg i (by omega)]; exact q) (.inl (PyProof.noPylong_small (by omega)))
/-- % by a positive divisor of any size -/
theorem op_mod : OpR X (binaryOp .Mod) (rI (fun _ j => 0 < j) fun i j => .int (i % j)) := opI fun i j _ _ _ _ _ hc q => by
  have h1 : (0 : Int) < j := hc
  exact mod_int' (by omega) (by rw [Int.fmod_eq_emod_of_nonneg i (by omega)]; exact q)
theorem unI {f : Value → Sem Value} {g : Int → Int}
    (rule : ∀ (i : Int) (t : Tok) (s : Shared) (Q : Value → Shared → Prop) (E : Value → Shared → Prop), Q (.int (g i) s.toks) { s with toks := s.toks + 1 } → wpAny (model X.prog X.w) X.A (f (.int i t)) Q E s) :
    UnR X f (rU fun i => .int (g i)) := by
  intro pins s σ H x v Q I rx h
  obtain ⟨i, rfl, q⟩ := h
  obtain ⟨t, rfl⟩ := rx
  exact rule i t s _ _ ⟨.int (g i), H, I.tok _, ⟨_, rfl⟩, q⟩
theorem un_neg : UnR X (unaryOp .USub) (rU fun i => .int (-i)) := unI fun _ _ _ _ _ q => neg_int q
/-! ### bools among ints: n += (a < b) -/
end

/-! ### comparisons -/
/-- the scalars that == tells apart as data does -/
def scal : V → V → Bool
  | .non, .non => true | .non, .int _ => true | .int _, .non => true | .non, .bl _ => true | .bl _, .non => true | .non, .str _ => true | .str _, .non => true
  | .int _, .int _ => true | .bl _, .bl _ => true | .str _, .str _ => true | .byt _, .byt _ => true
  | .int _, .str _ => true | .str _, .int _ => true | .bl _, .str _ => true | .str _, .bl _ => true
  | _, _ => false
def rEq : R2 := fun x y H Q => scal x y = true ∧ Q (.bl (decide (x = y))) H
def rNe : R2 := fun x y H Q => scal x y = true ∧ Q (.bl (!decide (x = y))) H

theorem dec_int {i j : Int} : decide (V.int i = V.int j) = (i == j) := by
  rw [Bool.eq_iff_iff]
  simp
theorem dec_bl {i j : Bool} : decide (V.bl i = V.bl j) = (i == j) := by
  rw [Bool.eq_iff_iff]
  simp
theorem dec_str {i j : Str} : decide (V.str i = V.str j) = (i == j) := by
  rw [Bool.eq_iff_iff]
  simp
theorem dec_byt {i j : Array UInt8} : decide (V.byt i = V.byt j) = (i.toList == j.toList) := by
  rw [Bool.eq_iff_iff]
  cases i
  cases j
  simp

section
variable {X : Cx} {a b c : Expr} {ta tb tc : TE} {pos : Pos}
theorem fin_bl {pins : List (Addr × Obj)} {σ : St} {H : Hp} {s : Shared} {Q : VK} {k k' : Bool} (I : Inv X pins σ H s) (q : Q (.bl k) H) (e : k = k') : EP X pins σ Q (.bool k') s := by
  subst e
  exact ⟨.bl k, H, I, rfl, q⟩
theorem op_eq : OpR X (compareOp .Eq) rEq := by
  intro pins s σ H x y v u Q I rx ry h
  obtain ⟨hs, q⟩ := h
  cases x with
  | non =>
    cases rx
    cases y with
    | non => cases ry; exact PySem.EqNone.eq_none_none (fin_bl I q (by simp))
    | bl j => cases ry; exact PySem.EqNone.eq_none_bool (fin_bl I q (by simp))
    | int j => obtain ⟨t', rfl⟩ := ry; exact PySem.EqNone.eq_none_int (fin_bl I q (by simp))
    | str j => obtain ⟨t', rfl⟩ := ry; exact PySem.EqNone.eq_none_str (fin_bl I q (by simp))
    | _ => exact absurd (show false = true from hs) Bool.false_ne_true
  | bl i =>
    cases rx
    cases y with
    | non => cases ry; exact PySem.EqNone.eq_bool_none (fin_bl I q (by simp))
    | bl j => cases ry; exact eq_bool (fin_bl I q dec_bl)
    | str j => obtain ⟨t', rfl⟩ := ry; exact PySem.EqMixed.eq_bool_str (fin_bl I q (by simp))
    | _ => exact absurd (show false = true from hs) Bool.false_ne_true
  | int i =>
    obtain ⟨t, rfl⟩ := rx
    cases y with
    | non => cases ry; exact PySem.EqNone.eq_int_none (fin_bl I q (by simp))
    | int j => obtain ⟨t', rfl⟩ := ry; exact eq_int (fin_bl I q dec_int)
    | str j => obtain ⟨t', rfl⟩ := ry; exact PySem.EqMixed.eq_int_str (fin_bl I q (by simp))
    | _ => exact absurd (show false = true from hs) Bool.false_ne_true
  | str i =>
    obtain ⟨t, rfl⟩ := rx
    cases y with
    | non => cases ry; exact PySem.EqNone.eq_str_none (fin_bl I q (by simp))
    | bl j => cases ry; exact PySem.EqMixed.eq_str_bool (fin_bl I q (by simp))
    | int j => obtain ⟨t', rfl⟩ := ry; exact PySem.EqMixed.eq_str_int (fin_bl I q (by simp))
    | str j => obtain ⟨t', rfl⟩ := ry; exact eq_str (fin_bl I q dec_str)
    | _ => exact absurd (show false = true from hs) Bool.false_ne_true
  | byt i =>
    obtain ⟨t, rfl⟩ := rx
    cases y with
    | byt j => obtain ⟨t', rfl⟩ := ry; exact PySem.W.eq_bytes (fin_bl I q dec_byt)
    | _ => exact absurd (show false = true from hs) Bool.false_ne_true
  | _ => cases y <;> exact absurd (show false = true from hs) Bool.false_ne_true
theorem op_ne : OpR X (compareOp .NotEq) rNe := by
  intro pins s σ H x y v u Q I rx ry h
  obtain ⟨hs, q⟩ := h
  cases x with
  | non =>
    cases rx
    cases y with
    | non => cases ry; exact PySem.EqNone.ne_none_none (fin_bl I q (by simp))
    | bl j => cases ry; exact PySem.EqNone.ne_none_bool (fin_bl I q (by simp))
    | int j => obtain ⟨t', rfl⟩ := ry; exact PySem.EqNone.ne_none_int (fin_bl I q (by simp))
    | str j => obtain ⟨t', rfl⟩ := ry; exact PySem.EqNone.ne_none_str (fin_bl I q (by simp))
    | _ => exact absurd (show false = true from hs) Bool.false_ne_true
  | bl i =>
    cases rx
    cases y with
    | non => cases ry; exact PySem.EqNone.ne_bool_none (fin_bl I q (by simp))
    | bl j => cases ry; exact ne_bool (fin_bl I q (congrArg not dec_bl))
    | str j => obtain ⟨t', rfl⟩ := ry; exact PySem.EqMixed.ne_bool_str (fin_bl I q (by simp))
    | _ => exact absurd (show false = true from hs) Bool.false_ne_true
  | int i =>
    obtain ⟨t, rfl⟩ := rx
    cases y with
    | non => cases ry; exact PySem.EqNone.ne_int_none (fin_bl I q (by simp))
    | int j => obtain ⟨t', rfl⟩ := ry; exact ne_int (fin_bl I q (congrArg not dec_int))
    | str j => obtain ⟨t', rfl⟩ := ry; exact PySem.EqMixed.ne_int_str (fin_bl I q (by simp))
    | _ => exact absurd (show false = true from hs) Bool.false_ne_true
  | str i =>
    obtain ⟨t, rfl⟩ := rx
    cases y with
    | non => cases ry; exact PySem.EqNone.ne_str_none (fin_bl I q (by simp))
    | bl j => cases ry; exact PySem.EqMixed.ne_str_bool (fin_bl I q (by simp))
    | int j => obtain ⟨t', rfl⟩ := ry; exact PySem.EqMixed.ne_str_int (fin_bl I q (by simp))
    | str j => obtain ⟨t', rfl⟩ := ry; exact ne_str (fin_bl I q (congrArg not dec_str))
    | _ => exact absurd (show false = true from hs) Bool.false_ne_true
  | byt i =>
    obtain ⟨t, rfl⟩ := rx
    cases y with
    | byt j => obtain ⟨t', rfl⟩ := ry; exact PySem.W.ne_bytes (fin_bl I q (congrArg not dec_byt))
    | _ => exact absurd (show false = true from hs) Bool.false_ne_true
  | _ => cases y <;> exact absurd (show false = true from hs) Bool.false_ne_true

theorem op_lt : OpR X (compareOp .Lt) (rI0 fun i j => .bl (decide (i < j))) := opB0 fun _ _ _ _ _ _ _ q => lt_int q
theorem op_le : OpR X (compareOp .LtE) (rI0 fun i j => .bl (decide (i ≤ j))) := opB0 fun _ _ _ _ _ _ _ q => le_int q
theorem op_gt : OpR X (compareOp .Gt) (rI0 fun i j => .bl (decide (j < i))) := opB0 fun _ _ _ _ _ _ _ q => gt_int q
/-- the one string within the other -/
theorem op_in_str : OpR X (compareOp .In) (fun x y H Q => ∃ i j, x = .str i ∧ y = .str j ∧ Q (.bl (!(Builtin.Str.occurrences j i 0 j.length 1).isEmpty)) H) := by
  intro pins s σ H x y v u Q I rx ry h
  obtain ⟨i, j, rfl, rfl, q⟩ := h
  obtain ⟨t, rfl⟩ := rx
  obtain ⟨t', rfl⟩ := ry
  exact in_str (fin_bl I q rfl)

theorem op_notin_str : OpR X (compareOp .NotIn) (fun x y H Q => ∃ i j, x = .str i ∧ y = .str j ∧ Q (.bl (!(!(Builtin.Str.occurrences j i 0 j.length 1).isEmpty))) H) := by
  intro pins s σ H x y v u Q I rx ry h
  obtain ⟨i, j, rfl, rfl, q⟩ := h
  obtain ⟨t, rfl⟩ := rx
  obtain ⟨t', rfl⟩ := ry
  exact notIn_str (fin_bl I q rfl)
/-- two rules for one operation: by cases -/
theorem OpR.or {f : Value → Value → Sem Value} {r r' : R2} (h : OpR X f r) (h' : OpR X f r') : OpR X f (fun x y H Q => r x y H Q ∨ r' x y H Q) := by
  intro pins s σ H x y v u Q I rx ry q
  rcases q with q | q
  · exact h pins s σ H x y v u Q I rx ry q
  · exact h' pins s σ H x y v u Q I rx ry q

theorem nomark (b : Expr) {op : CmpOp} (h : op ≠ .In := by decide) (h2 : op ≠ .NotIn := by decide) : behindInMarks op b = false := by
  have e1 : (op == CmpOp.In) = false := by cases op <;> first | rfl | exact absurd rfl h
  have e2 : (op == CmpOp.NotIn) = false := by cases op <;> first | rfl | exact absurd rfl h2
  cases b <;> simp [behindInMarks, e1, e2]
/-- a comparison as a value; hm: nomark b, or (for in, not in) by with_unfolding_all rfl -/
theorem pe_cmpR {op : CmpOp} {r : R2} (ho : OpR X (compareOp op) r) (ha : PE X a ta) (hb : PE X b tb) (hm : behindInMarks op b = false) : PE X (.Compare a [op] [b] pos) (tOp r ta tb) := by
  intro pins s σ H Q I h
  exact wpAny_Compare1 (binT ha hb I h fun v u s2 x y H2 I2 rx ry q => ho pins s2 σ H2 x y v u Q I2 rx ry q) hm
/-- a reading of a value as a test -/
def tTest (t : TE) : TT := fun σ H Q => t σ H fun x H' => ∃ k, x = .bl k ∧ Q k H'
theorem pt_cmpR {op : CmpOp} {r : R2} (ho : OpR X (compareOp op) r) (ha : PE X a ta) (hb : PE X b tb) (hm : behindInMarks op b = false) : PT X (.Compare a [op] [b] pos) (tTest (tOp r ta tb)) := by
  intro pins s σ H Q I h
  refine wpAny_isTrue_Compare1 (thn (ha pins s σ H _ I h) fun v s1 ⟨x, H1, I1, r1, q1⟩ => thn (hb pins s1 σ H1 _ I1 q1) fun u s2 ⟨y, H2, I2, r2, q2⟩ =>
    thn (ho pins s2 σ H2 x y v u _ I2 r1 r2 q2) fun c s3 ⟨z, H3, I3, r3, k, e, q3⟩ => ?_) hm
  subst e
  cases r3
  exact wpAny_truthy_bool ⟨H3, I3, q3⟩
/-! ### truth -/
theorem line63 : (sizeLine : Nat) < 2 ^ 63 := by rw [sizeLine_eq]; decide
/-! ### strs and bytes -/
theorem op_add_str : OpR X (binaryOp .Add) (fun x y H Q => ∃ i j, x = .str i ∧ y = .str j ∧ i.length + j.length ≤ sizeLine ∧ Q (.str (i ++ j)) H) := by
  intro pins s σ H x y v u Q I rx ry h
  obtain ⟨i, j, rfl, rfl, hz, q⟩ := h
  obtain ⟨t, rfl⟩ := rx
  obtain ⟨t', rfl⟩ := ry
  exact tokQ I.tk (add_str (fun t' tk (htk : 0 < tk) => ⟨.str (i ++ j), H, I.tok _, ⟨_, rfl⟩, q⟩) hz)
/-! ### scalar builtins, by CallR -/
theorem vals1 {x : V} {us : List Value} (r : Vals [x] us) : ∃ u, us = [u] ∧ RelV x u := by
  cases r with
  | cons r1 r2 => cases r2; exact ⟨_, rfl, r1⟩
theorem vals2 {x y : V} {us : List Value} (r : Vals [x, y] us) : ∃ u w', us = [u, w'] ∧ RelV x u ∧ RelV y w' := by
  cases r with
  | cons r1 r2 =>
    cases r2 with
    | cons r3 r4 => cases r4; exact ⟨_, _, rfl, r1, r3⟩
end
end L2

namespace L2
open PySem PySem.Spec PyProof.Rows

/-! ### an instance, its attributes a map -/
structure ObjM (h : Heap) (x dx C : Addr) (mA : Str → Option Value) : Prop where
  obj : h.get? x = some (PySem.W.instObj C dx)
  ns : h.Ns1 dx mA
  ne : dx ≠ x

theorem lookIn_ns {h : Heap} {dx : Addr} {mA : Str → Option Value} (n : h.Ns1 dx mA) : ∃ od, h.get? dx = some od ∧ ∀ name, PySem.W.lookIn name od = some (mA name) := by
  obtain ⟨o, es, ep, ho, hd, hk, _, hm⟩ := n
  refine ⟨o, ho, fun name => ?_⟩
  have e := hm name
  unfold nsFind findBy at e
  rw [← Array.find?_toList] at e
  unfold PySem.W.lookIn
  rw [hd]
  dsimp only
  split
  · rename_i y q
    rw [q] at e
    exact congrArg some e
  · rename_i q
    rw [q] at e
    have a : es.toList.any (·.refKey) = false := by
      rw [List.any_eq_false]
      intro y hy
      obtain ⟨z, t, hkey⟩ := hk y (Array.mem_toList_iff.mp hy)
      simp [DictEntry.refKey, hkey]
    have a' : ¬ es.toList.any (·.refKey) = true := by rw [a]; exact Bool.false_ne_true
    rw [if_neg a']
    exact congrArg some e

theorem ObjM.look {h : Heap} {x dx C : Addr} {mA : Str → Option Value} (I : ObjM h x dx C mA) : ∃ od, PySem.W.InstAt h x (PySem.W.instObj C dx) C (some od) ∧ ∀ name, PySem.W.lookIn name od = some (mA name) :=
  let ⟨od, ho, hl⟩ := lookIn_ns I.ns
  ⟨od, ⟨I.obj, rfl, rfl, ho⟩, hl⟩

section
variable {prog : Program} {w : World} {A : Around} {E : Value → Shared → Prop} {s : Shared} {K : PySem.W.Frag} {x dx C f : Addr} {mA : Str → Option Value} {name : Str} {v : Value}

end

/-! ### the attributes as a list of pairs -/
section
variable {P : Program} {w : World} {H H' : Hp} {h h' : Heap} {a C dx : Addr} {fs fs' : List (Str × V)}
theorem ins_get (hok : HOk P w H h) (e : H a = some (.ins C dx fs)) : ∃ mA, ObjM h a dx C mA ∧ (∀ f, RelO (fs.lookup f) (mA f)) ∧ PySem.Within mA (fs.map (·.1)) ∧ fs.length ≤ 1000 ∧ H dx = some (.own a) := by
  obtain ⟨d, z, ne, ob, mA, n, r, q⟩ := (show ObjOk P w H h a (.ins C dx fs) from hok a _ e)
  exact ⟨mA, ⟨ob, n, ne⟩, r, q, z, d⟩
end

/-! ### what of the text a class must have -/
structure Cls (K : PySem.W.Frag) (C : Addr) : Prop where
  pg : PySem.W.plainGet K C Str.empty = true
  hd : PySem.W.hasDictIn K C = true
  po : PySem.W.plainOver K C = true
  sa : PySem.W.findIn K (.ref C) "__setattr__" = some (some (.builtin "object.__setattr__"))
theorem Cls.get {K : PySem.W.Frag} {C : Addr} (c : Cls K C) (f : Str) : PySem.W.plainGet K C f = true := c.pg
/-- a constant of the class -/
structure Con (K : PySem.W.Frag) (C : Addr) (f : Str) (v : V) (u : Value) : Prop where
  at_ : PySem.W.findIn K (.ref C) f = some (some u)
  rel : RelV v u
  get : PySem.W.specialIn K u "__get__" = some none
  cp : PySem.W.copiedNames.contains f = false
/-- a method: a plain def of the class or of one above it -/
structure Meth (K : PySem.W.Frag) (C : Addr) (m : Str) (f : Addr) : Prop where
  at_ : PySem.W.findIn K (.ref C) m = some (some (.ref f))
  fn : PySem.W.isFn K (.ref f) = true
  kp : PySem.W.keepIn K (.ref f) = true

section
variable {X : Cx} {pins : List (Addr × Obj)} {σ : St} {H : Hp} {s : Shared} {a C dx : Addr} {fs : List (Str × V)} {f : Str} {v : V} {A : Around} {E : Value → Shared → Prop}

/-- a new instance, tracked, without attributes -/
theorem Inv.made (I : Inv X pins σ H s) : Inv X pins σ (upd (upd H s.heap.objs.size (.own (s.heap.objs.size + 1))) (s.heap.objs.size + 1) (.ins C s.heap.objs.size []))
    { s with heap := (s.heap.push PySem.W.emptyDict).push (PySem.W.instObj C s.heap.objs.size) } := by
  have e1 : (s.heap.push PySem.W.emptyDict).get? s.heap.objs.size = some PySem.W.emptyDict := Heap.get?_push_size s.heap rfl
  have e2 : ((s.heap.push PySem.W.emptyDict).push (PySem.W.instObj C s.heap.objs.size)).get? (s.heap.objs.size + 1) = some (PySem.W.instObj C s.heap.objs.size) := by
    have := Heap.get?_push_size (s.heap.push PySem.W.emptyDict) (o := PySem.W.instObj C s.heap.objs.size) rfl
    rwa [Heap.size_push] at this
  have e3 : (s.heap.push PySem.W.emptyDict).Ns s.heap.objs.size (fun _ => none) := ⟨PySem.W.emptyDict, #[], _, e1, rfl, (fun e he => absurd he (by simp)), fun _ => rfl⟩
  have I1 := I.laid (a := s.heap.objs.size) (o := .own (s.heap.objs.size + 1)) (h' := s.heap.push PySem.W.emptyDict) (t' := s.toks) (fun b u q => Heap.get?_push_of_some _ q) (Nat.le_refl _) ⟨_, e1⟩
  refine I1.laid (a := s.heap.objs.size + 1) (o := .ins C s.heap.objs.size []) (t' := s.toks) (fun b u q => Heap.get?_push_of_some _ q) (Nat.le_of_eq (Heap.size_push _ _)) ?_
  have ne : s.heap.objs.size ≠ s.heap.objs.size + 1 := Nat.ne_of_lt (Nat.lt_succ_self _)
  refine ⟨by rw [upd_ne ne, upd_same], Nat.zero_le _, ne, e2, fun _ => none, (Heap.Ns1.of_empty e3).at fun o q => Heap.get?_push_of_some _ q, fun _ => True.intro, fun y hy => absurd rfl hy⟩

end

/-! ### readings and rules -/
section
variable {X : Cx} {o e value : Expr} {f : Str} {pos pos' tpos : Pos} {ta tv : TE}
end

/-! ### isinstance -/
section
variable {X : Cx} {pins : List (Addr × Obj)} {σ : St} {H : Hp} {s : Shared} {A : Around} {E : Value → Shared → Prop} {Q : Value → Shared → Prop} {c : Value} {b : Bool}
/-- the type of a value, as the fragment's deciders take it; for an instance its class -/
inductive TyOf (K : PySem.W.Frag) (H : Hp) : V → Value → Prop where
  | non : TyOf K H .non (.type "NoneType")
  | bl (x : Bool) : TyOf K H (.bl x) (.type "bool")
  | int (i : Int) : TyOf K H (.int i) (.type "int")
  | str (x : Str) : TyOf K H (.str x) (.type "str")
  | flt (x : UInt64) : TyOf K H (.flt x) (.type "float")
  | lst {a : Addr} {xs : List V} (e : H a = some (.lst xs)) : TyOf K H (.ref a) (.type "list")
  | frz {a : Addr} {o : Obj} {xs : List V} (e : H a = some (.frz o (.lst xs))) : TyOf K H (.ref a) (.type "list")
  | tup {a : Addr} {xs : List V} (e : H a = some (.tup xs)) : TyOf K H (.ref a) (.type "tuple")
  | dK {a : Addr} {kvs : List (Key × V)} (e : H a = some (.dK kvs)) : TyOf K H (.ref a) (.type "dict")
  | dT {a : Addr} {kvs : List (List Key × V)} (e : H a = some (.dT kvs)) : TyOf K H (.ref a) (.type "dict")
  | ins {a C dx : Addr} {fs : List (Str × V)} (e : H a = some (.ins C dx fs)) (cl : Cls K C) (ha : PySem.W.findIn K (.ref C) "__class__" = some (some (.builtin "object.__class__")))
      (hn : PySem.W.specialIn K (.builtin "object.__class__") "__get__" = some (some (.builtin "getset_descriptor.__get__"))) (htk : PySem.W.takesIn K (.builtin "object.__class__") = some true)
      (hm : PySem.W.mroIn K C (.type "object") = some true) : TyOf K H (.ref a) (.ref C)
/-- isinstance(x, c) for one class c, a built-in or an own one: kitOne's answer -/
theorem isinst_ok {x : V} {u t : Value} (I : Inv X pins σ H s) (rx : RelV x u) (ty : TyOf X.K H x t) (e : PySem.W.kitOne X.K t c = some b) (h : ∀ tk, Q (.bool b) { s with toks := tk }) :
    wpAny (model X.prog X.w) A (call (.builtin "isinstance") [u, c]) Q E s := by
  cases ty with
  | non => cases (show u = Value.none from rx); exact PySem.W.kia_one PySem.W.kitx_none I.kIn True.intro e (fun z => nomatch z) h
  | bl y => cases (show u = Value.bool y from rx); exact PySem.W.kia_one PySem.W.kitx_bool I.kIn True.intro e (fun z => nomatch z) h
  | int i => obtain ⟨t, q⟩ := (show ∃ t, u = Value.int i t from rx); cases q; exact PySem.W.kia_one PySem.W.kitx_int I.kIn True.intro e (fun z => nomatch z) h
  | str y => obtain ⟨t, q⟩ := (show ∃ t, u = Value.str y t from rx); cases q; exact PySem.W.kia_one PySem.W.kitx_str I.kIn True.intro e (fun z => nomatch z) h
  | flt y => obtain ⟨t, q⟩ := (show ∃ t, u = Value.float y t from rx); cases q; exact PySem.W.kia_one PySem.W.kitx_float I.kIn True.intro e (fun z => nomatch z) h
  | @lst a xs ea =>
    cases (show u = Value.ref a from rx)
    obtain ⟨_, _, n, _, h1⟩ := (show ObjOk X.prog X.w H s.heap a (.lst xs) from I.hok a _ ea)
    exact PySem.W.kia_one PySem.W.kitx_list I.kIn ⟨_, h1, rfl⟩ e (fun z => nomatch z) h
  | @frz a ob xs ea =>
    cases (show u = Value.ref a from rx)
    obtain ⟨_, _, _, n, _, h1⟩ := (show ObjOk X.prog X.w H s.heap a (.frz ob (.lst xs)) from I.hok a _ ea)
    exact PySem.W.kia_one PySem.W.kitx_list I.kIn ⟨_, h1, rfl⟩ e (fun z => nomatch z) h
  | @tup a xs ea =>
    cases (show u = Value.ref a from rx)
    obtain ⟨_, _, _, p⟩ := (show ObjOk X.prog X.w H s.heap a (.tup xs) from I.hok a _ ea)
    obtain ⟨o, h1, h2, _⟩ := p
    exact PySem.W.kia_one PySem.W.kitx_tuple I.kIn ⟨o, h1, h2⟩ e (fun z => nomatch z) h
  | @dK a kvs ea =>
    cases (show u = Value.ref a from rx)
    obtain ⟨_, _, vs, _, p⟩ := (show ObjOk X.prog X.w H s.heap a (.dK kvs) from I.hok a _ ea)
    obtain ⟨o, es, ep, h1, h2, _⟩ := p
    exact PySem.W.kia_one PySem.W.kitx_dict I.kIn ⟨o, h1, h2.1⟩ e (fun z => nomatch z) h
  | @dT a kvs ea =>
    cases (show u = Value.ref a from rx)
    obtain ⟨_, _, xs, _, o, es, ep, h1, h2, _⟩ := (show ObjOk X.prog X.w H s.heap a (.dT kvs) from I.hok a _ ea)
    exact PySem.W.kia_one PySem.W.kitx_dict I.kIn ⟨o, h1, h2.1⟩ e (fun z => nomatch z) h
  | @ins a C dx fs ea cl ha hn htk hm =>
    cases (show u = Value.ref a from rx)
    obtain ⟨mA, O, _⟩ := ins_get I.hok ea
    obtain ⟨od, J, _⟩ := O.look
    exact PySem.W.kia_one (PySem.W.kitx_own (cl.get _) cl.hd ha hn htk hm) I.kIn J e (fun z => nomatch z) h
end
end L2

namespace L2
open PySem PySem.Spec PyProof.Rows

/-! ### room -/
structure Room (k : Nat) (A : Around) : Prop where
  hd : A.handled = none
  dp : A.depth + 3 * k + 5 < recursionLimit
  un : A.units + 16 * k + 200 < cLine
  gd : A.guards = some []
theorem Room.mono {j k : Nat} {A : Around} (r : Room k A) (h : j ≤ k) : Room j A := ⟨r.hd, by have := r.dp; omega, by have := r.un; omega, r.gd⟩
theorem Room.deeper {k : Nat} {A : Around} (r : Room (k + 1) A) (env : Env) : Room k (A.deeper env) :=
  ⟨r.hd, by have := r.dp; show A.depth + 1 + 3 * k + 5 < _; omega, by have := r.un; show A.units + 3 + 16 * k + 200 < _; omega, r.gd⟩
theorem Room.in1 {k : Nat} {A : Around} (r : Room (k + 1) A) : Room k A.in1 :=
  ⟨r.hd, by have := r.dp; show A.depth + 3 * k + 5 < _; omega, by have := r.un; show A.units + 1 + 16 * k + 200 < _; omega, r.gd⟩
theorem Room.depth {k : Nat} {A : Around} (r : Room k A) : A.depth < recursionLimit := by have := r.dp; omega
theorem Room.units {k : Nat} {A : Around} (r : Room k A) : A.units + 64 < cLine := by have := r.un; omega
theorem Room.units0 {k : Nat} {A : Around} (r : Room k A) : A.units < cLine := by have := r.un; omega

/-! ### argument lists and displays -/
def tNil : TA := fun _ H Q => Q [] H
def tCons (ta : TE) (tr : TA) : TA := fun σ H Q => ta σ H fun x H1 => tr σ H1 fun xs H2 => Q (x :: xs) H2
section
variable {X : Cx} {e : Expr} {es : List Expr} {te : TE} {t : TA} {pos : Pos}
theorem pa_nil : PA X [] tNil := fun _ _ _ _ H Q I h => Calls.spliced_nil ⟨[], H, I, .nil, h⟩
theorem pa_cons (ha : PE X e te) (hr : PA X es t) (hs : starEach (e :: es) X.env = (false, eval e X.env) :: starEach es X.env := by rfl) : PA X (e :: es) (tCons te t) := by
  intro pos pins s σ H Q I h
  rw [hs]
  show wpAny _ _ (spliced ((false, eval e X.env) :: backTo pos (starEach es X.env))) _ _ s
  refine Calls.spliced_cons (thn (ha pins s σ H _ I h) fun u s1 ⟨x, H1, I1, r1, q1⟩ => ?_)
  exact thn (hr pos pins s1 σ H1 _ I1 q1) fun us s2 ⟨xs, H2, I2, r2, q2⟩ => ⟨x :: xs, H2, I2, .cons r1 r2, q2⟩

/-- a tuple, a list of written items -/
def tTup (t : TA) : TE := fun σ H Q => t σ H fun xs H1 => xs.length ≤ sizeLine ∧ ∀ p, H1 p = none → Q (.ref p) (upd H1 p (.tup xs))
def tLst (t : TA) : TE := fun σ H Q => t σ H fun xs H1 => xs.length ≤ sizeLine ∧ ∀ p, H1 p = none → Q (.ref p) (upd H1 p (.lst xs))
theorem pe_tup {x1} (h : PA X es t) : PE X (.Tuple es x1 pos) (tTup t) := by
  intro pins s σ H Q I hq
  refine wpAny_Tuple_spliced (thn (h pos pins s σ H _ I hq) fun us s1 ⟨xs, H1, I1, r, z, q⟩ => ⟨by rw [← r.length]; exact z, ?_⟩)
  have hf : H1 s1.heap.objs.size = none := I1.hok.fresh (Nat.le_refl _)
  refine ⟨.ref s1.heap.objs.size, upd H1 s1.heap.objs.size (.tup xs), I1.laid (t' := s1.toks) (fun b u e => Heap.get?_push_of_some _ e) (Nat.le_refl _) ?_, rfl, q _ hf⟩
  exact ⟨z, us, r, ⟨_, Heap.get?_push_size _ rfl, rfl, _, rfl⟩⟩
theorem pe_lst (h : PA X es t) : PE X (.List es pos) (tLst t) := by
  intro pins s σ H Q I hq
  refine wpAny_List_spliced (thn (h pos pins s σ H _ I hq) fun us s1 ⟨xs, H1, I1, r, z, q⟩ => ⟨by rw [← r.length]; exact z, ?_⟩)
  have hf : H1 s1.heap.objs.size = none := I1.hok.fresh (Nat.le_refl _)
  refine ⟨.ref s1.heap.objs.size, upd H1 s1.heap.objs.size (.lst xs), I1.laid (t' := s1.toks) (fun b u e => Heap.get?_push_of_some _ e) (Nat.le_refl _) ?_, rfl, q _ hf⟩
  exact ⟨z, us, 0, r, Heap.get?_push_size _ rfl⟩
end

/-! ### what a def promises -/
/-- a def's promise: the bound arguments in the parameters' order, the heap, the wanted end, the wanted exception -/
abbrev Sp := List V → Hp → VK → XK → Prop
/-- how an exception lies behind a call (file 08 gives it): the callers' frames, abstract heap and state ahead of the call, the wish, the exception, the state -/
abbrev CXT := List Env → Hp → Shared → XK → Value → Shared → Prop

/-- the state at a call -/
structure Env0 (P : Program) (w : World) (K : PySem.W.Frag) (mg : Str → Option Value) (base : Heap) (A : Around) (outer : List Env) (s : Shared) (H : Hp) : Prop where
  frames : A.frames = some outer
  mod : Mod K mg base
  bs : ∀ b o, base.get? b = some o → s.heap.get? b = some o ∧ H b = none
  bsz : base.objs.size ≤ s.heap.objs.size
  funs : s.heap.FunFrames base outer
  frf : ∀ b ∈ frs outer, H b = none
  hok : HOk P w H s.heap
  bare : AllBare s.gens
  tk : 0 < s.toks
/-- a call's end -/
def CE (outer : List Env) (P : Program) (w : World) (H : Hp) (s : Shared) (Q : VK) (u : Value) (s' : Shared) : Prop :=
  ∃ v H', 0 < s'.toks ∧ s'.os = s.os ∧ AllBare s'.gens ∧ Un (frs outer) [] H H' s.heap s'.heap ∧ HOk P w H' s'.heap ∧ RelV v u ∧ Q v H'
def CR (CX : CXT) (outer : List Env) (P : Program) (w : World) (H : Hp) (s : Shared) (Q : VK) (E : XK) (r : Result) (s' : Shared) : Prop :=
  match r with
  | .ok (.ret u) => CE outer P w H s Q u s'
  | .ok _ => False
  | .error e => CX outer H s E e s'
structure FnOk (P : Program) (w : World) (K : PySem.W.Frag) (mg : Str → Option Value) (base : Heap) (CX : CXT) (k : Nat) (f : Addr) (fd : FuncData) (ps : List Str) (sp : Sp) : Prop where
  len : ∀ vs H Q E, sp vs H Q E → vs.length = ps.length
  run : ∀ (A : Around) (outer : List Env) (s : Shared) (H : Hp) (args : Args) (us : List Value) (vs : List V) (Q : VK) (E : XK), Room k A → Env0 P w K mg base A outer s H → BindsTo s fd args (ps.zip us) → Vals vs us → sp vs H Q E →
    codeAny (model P w) A (.call (.ref f) args) (CR CX outer P w H s Q E) s
theorem FnOk.mono {P : Program} {w : World} {K : PySem.W.Frag} {mg : Str → Option Value} {base : Heap} {CX : CXT} {j k : Nat} {f : Addr} {fd : FuncData} {ps : List Str} {sp : Sp} (F : FnOk P w K mg base CX j f fd ps sp) (h : j ≤ k) :
    FnOk P w K mg base CX k f fd ps sp := ⟨F.len, fun A outer s H args us vs Q E hr => F.run A outer s H args us vs Q E (hr.mono h)⟩
/-- a weaker promise -/
theorem FnOk.imp {P : Program} {w : World} {K : PySem.W.Frag} {mg : Str → Option Value} {base : Heap} {CX : CXT} {k : Nat} {f : Addr} {fd : FuncData} {ps : List Str} {sp sp' : Sp} (F : FnOk P w K mg base CX k f fd ps sp)
    (h : ∀ vs H Q E, sp' vs H Q E → sp vs H Q E) : FnOk P w K mg base CX k f fd ps sp' :=
  ⟨fun vs H Q E q => F.len vs H Q E (h _ _ _ _ q), fun A outer s H args us vs Q E hr he hb hv hs => F.run A outer s H args us vs Q E hr he hb hv (h _ _ _ _ hs)⟩

theorem Env0.in1 {P : Program} {w : World} {K : PySem.W.Frag} {mg : Str → Option Value} {base : Heap} {A : Around} {outer : List Env} {s : Shared} {H : Hp} (e : Env0 P w K mg base A outer s H) :
    Env0 P w K mg base A.in1 outer s H := ⟨e.frames, e.mod, e.bs, e.bsz, e.funs, e.frf, e.hok, e.bare, e.tk⟩

section
variable {X : Cx} {pins : List (Addr × Obj)} {σ : St} {H : Hp} {s s' : Shared}
/-- from a body: what a callee wants -/
theorem Inv.env0 (I : Inv X pins σ H s) : Env0 X.prog X.w X.K X.mg X.base X.A X.stack s H :=
  ⟨I.ok.frames, I.ok.mod, I.bs, Nat.le_trans I.ok.bsz I.sz, I.stack, I.stkFree, I.hok, I.bare, I.tk⟩
/-- behind a call -/
theorem Inv.after {Q : VK} {u : Value} (I : Inv X pins σ H s) (h : CE X.stack X.prog X.w H s Q u s') : EP X pins σ Q u s' := by
  obtain ⟨v, H', ht, os, bare, un, hok, r, q⟩ := h
  obtain ⟨hh, g, d, t, os'⟩ := s'
  obtain rfl : os' = s.os := os
  exact ⟨v, H', I.call (h' := hh) (g' := g) (d' := d) (t' := t) (ch := []) un hok bare (fun b z => absurd z (by simp)) ht, r, q⟩
end

/-! ### calls -/
/-- f(..): the written arguments, then the defaults dvs; E: what is wanted of an exception -/
def tCall (sp : Sp) (dvs : List V) (E : XK) (t : TA) : TE := fun σ H Q => t σ H fun vs H1 => sp (vs ++ dvs) H1 Q E
/-- how the parameters are bound: us the positional arguments, kw the keywords' values by name, ds the defaults that fill up -/
def Binds (K : PySem.W.Frag) (fd : FuncData) (ps : List Str) (ds : List Value) : Prop :=
  ∀ (s : Shared) (us : List Value), K.In s.heap → (us ++ ds).length = ps.length → BindsTo s fd ⟨us, []⟩ (ps.zip (us ++ ds))
/-- every parameter is given -/
theorem Binds.all {K : PySem.W.Frag} {fd : FuncData} {ps : List Str} (h : ∀ us : List Value, us.length = ps.length → bindArgs fd ⟨us, []⟩ = pure (ps.zip us)) : Binds K fd ps [] := fun s us _ hl => by
  rw [List.append_nil] at hl ⊢
  exact .of_eq (h us hl)

/-- an exception of a callee reaches what this body wants of exceptions -/
def Passes (CX : CXT) (X : Cx) (E : XK) : Prop := ∀ (pins : List (Addr × Obj)) (σ : St) (H : Hp) (s : Shared) (e : Value) (s' : Shared), Inv X pins σ H s → CX X.stack H s E e s' → X.xe e s'

section
variable {X : Cx} {CX : CXT} {k : Nat} {f C : Addr} {fd : FuncData} {ps : List Str} {sp : Sp} {dvs : List V} {ds : List Value} {E : XK} {x m : Str} {p pos apos : Pos} {e o : Expr} {es : List Expr} {ta : TE} {t : TA}

/-- the callee runs -/
theorem run_fn {pins : List (Addr × Obj)} {σ : St} {H : Hp} {s : Shared} {Q : VK} {us : List Value} {vs : List V} (F : FnOk X.prog X.w X.K X.mg X.base CX k f fd ps sp) (hr : Room k X.A) (hb : Binds X.K fd ps ds) (hd : Vals dvs ds) (hx : Passes CX X E)
    (I : Inv X pins σ H s) (r : Vals vs us) (h : sp (vs ++ dvs) H Q E) : wpAny (model X.prog X.w) X.A (call (.ref f) us) (EP X pins σ Q) X.xe s := by
  have r2 : Vals (vs ++ dvs) (us ++ ds) := r.append hd
  have hl : (us ++ ds).length = ps.length := by rw [← r2.length]; exact F.len _ _ _ _ h
  refine wpAny_call (codeAny_mono (F.run X.A X.stack s H ⟨us, []⟩ (us ++ ds) (vs ++ dvs) Q E hr I.env0 (hb s us I.kIn hl) r2 h) fun r s' hq => ?_)
  cases r with
  | error e => exact hx pins σ H s e s' I hq
  | ok fl =>
    cases fl with
    | ret u => exact I.after hq
    | next => exact False.elim hq
    | brk => exact False.elim hq
    | cont => exact False.elim hq

theorem pe_call (F : FnOk X.prog X.w X.K X.mg X.base CX k f fd ps sp) (hr : Room k X.A) (hg : Gl X x) (hm : X.mg x = some (.ref f)) (hk : PySem.W.keepIn X.K (.ref f) = true) (hb : Binds X.K fd ps ds) (hd : Vals dvs ds) (hx : Passes CX X E)
    (ha : PA X (e :: es) t) (hdb : (x == ("__debug__" : Str)) = false := by decide) (he : starEach (e :: es) X.env = (false, eval e X.env) :: starEach es X.env := by rfl) (hpl : (backTo pos (starEach es X.env)).any (·.1) = false := by rfl) :
    PE X (.Call (.Name x p) (e :: es) [] pos) (tCall sp dvs E t) := by
  intro pins s σ H Q I h
  refine wpAny_Call_Name_kw (ld_glob I hg hm ?_ hdb)
  refine PySem.W.callWith_K (h₀ := X.base) I.ok.mod.kin hk (thn (ha pos pins s σ H _ I h) fun us s1 ⟨vs, H1, I1, r, q⟩ => ⟨I1.kIn, ?_⟩) he hpl
  exact run_fn F hr hb hd hx I1 r q
/-- what a class must have to be made -/
structure Mk (K : PySem.W.Frag) (C f : Addr) : Prop where
  makes : PySem.W.makesIn K C = true
  init : PySem.W.findIn K (.ref C) "__init__" = some (some (.ref f))
  fn : PySem.W.isFn K (.ref f) = true
  kp : PySem.W.keepIn K (.ref C) = true

end

/-! ### keywords -/
section
variable {X : Cx} {CX : CXT} {k : Nat} {f C : Addr} {fd : FuncData} {ps ks : List Str} {sp : Sp} {E : XK} {x m : Str} {p pos apos kpos : Pos} {e o : Expr} {es : List Expr} {kws : List Keyword} {te ta : TE} {t tk : TA} {nm : Option Str}
/-- how a call with keywords binds: g puts the positional values us and the keywords' values ws (names ks) in the parameters' order, defaults among them -/
structure KBinds (K : PySem.W.Frag) (fd : FuncData) (ps ks : List Str) (g : List Value → List Value → List Value) (gV : List V → List V → List V) : Prop where
  to : ∀ (s : Shared) (us ws : List Value), K.In s.heap → (g us ws).length = ps.length → BindsTo s fd ⟨us, ks.zip ws⟩ (ps.zip (g us ws))
  rel : ∀ {vs : List V} {us : List Value} {zs : List V} {ws : List Value}, Vals vs us → Vals zs ws → Vals (gV vs zs) (g us ws)
variable {g : List Value → List Value → List Value} {gV : List V → List V → List V}
end

/-! ### a def's body keeps its promise -/
/-- names: the parameters first -/
structure FnScope (N P : List Str) (sc : Scope) : Prop where
  kind : sc.kind = .function
  co : sc.isCoroutine = false
  gen : sc.isGenerator = false
  nd : N.Nodup
  pre : N.take P.length = P
  par : ∀ x ∈ P, sc.names.lookup x = some .local ∨ sc.names.lookup x = some .cell
  nofree : ∀ y ∈ sc.names, y.2 ≠ .free

theorem bindL_out {kindOf : Str → Option NameKind} {x : Str} : ∀ {binds : List (Str × Value)} {m : Str → Option Value}, (∀ v, (x, v) ∉ binds) → bindL kindOf binds m x = m x
  | [], _, _ => rfl
  | (n, v) :: r, m, h => by
    unfold bindL
    rw [bindL_out fun w hw => h w (List.mem_cons_of_mem _ hw)]
    split
    · have : x ≠ n := by rintro rfl; exact h v List.mem_cons_self
      simp [this]
    · rfl
theorem bindC_out {kindOf : Str → Option NameKind} {x : Str} : ∀ {binds : List (Str × Value)} {m : Str → Option Value}, (∀ v, (x, v) ∉ binds) → bindC kindOf binds m x = m x
  | [], _, _ => rfl
  | (n, v) :: r, m, h => by
    unfold bindC
    rw [bindC_out fun w hw => h w (List.mem_cons_of_mem _ hw)]
    split
    · rfl
    · have : x ≠ n := by rintro rfl; exact h v List.mem_cons_self
      simp [this]
theorem bindL_get {kindOf : Str → Option NameKind} {x : Str} {v : Value} : ∀ {P : List Str} {vs : List Value} {i : Nat} {m : Str → Option Value}, P.Nodup → P[i]? = some x → vs[i]? = some v → kindOf x = some .local →
    bindL kindOf (P.zip vs) m x = some v
  | [], _, _, _, _, h, _, _ => by simp at h
  | _ :: _, [], _, _, _, _, h, _ => by simp at h
  | p :: P, w :: vs, 0, m, nd, h1, h2, hk => by
    simp at h1 h2; subst h1; subst h2
    show bindL kindOf ((p, w) :: P.zip vs) m p = _
    unfold bindL
    rw [bindL_out fun v hv => (List.nodup_cons.mp nd).1 (List.of_mem_zip hv).1, if_pos hk]
    simp
  | p :: P, w :: vs, i + 1, m, nd, h1, h2, hk => by
    show bindL kindOf ((p, w) :: P.zip vs) m x = _
    unfold bindL
    exact bindL_get (i := i) (List.nodup_cons.mp nd).2 (by simpa using h1) (by simpa using h2) hk
theorem bindC_get {kindOf : Str → Option NameKind} {x : Str} {v : Value} : ∀ {P : List Str} {vs : List Value} {i : Nat} {m : Str → Option Value}, P.Nodup → P[i]? = some x → vs[i]? = some v → kindOf x ≠ some .local →
    bindC kindOf (P.zip vs) m x = some v
  | [], _, _, _, _, h, _, _ => by simp at h
  | _ :: _, [], _, _, _, _, h, _ => by simp at h
  | p :: P, w :: vs, 0, m, nd, h1, h2, hk => by
    simp at h1 h2; subst h1; subst h2
    show bindC kindOf ((p, w) :: P.zip vs) m p = _
    unfold bindC
    rw [bindC_out fun v hv => (List.nodup_cons.mp nd).1 (List.of_mem_zip hv).1, if_neg hk]
    simp
  | p :: P, w :: vs, i + 1, m, nd, h1, h2, hk => by
    show bindC kindOf ((p, w) :: P.zip vs) m x = _
    unfold bindC
    exact bindC_get (i := i) (List.nodup_cons.mp nd).2 (by simpa using h1) (by simpa using h2) hk

/-- the names' values at the entry -/
def start (N : List Str) (vs : List V) : St := vs.map some ++ List.replicate (N.length - vs.length) none

/-- the context of a def's body, at its entry; an exception leaves the frame, then lies as CX says -/
def cxOf (CX : CXT) (P : Program) (w : World) (K : PySem.W.Frag) (mg : Str → Option Value) (base : Heap) (N : List Str) (qual : Str) (scope : Scope) (f : Addr) (cd : Value) (A : Around) (outer : List Env) (s : Shared) (H : Hp) (E : XK) : Cx where
  prog := P
  w := w
  K := K
  mg := mg
  base := base
  A := A.deeper (envOfC qual scope s.heap.objs.size f cd)
  N := N
  s₀ := s
  H₀ := H
  env := envOfC qual scope s.heap.objs.size f cd
  outer := outer
  stack := envOfC qual scope s.heap.objs.size f cd :: outer
  ex := []
  calm := true
  fn := fun _ => true
  pn := []
  xe := fun e s' => wpAny (model P w) (A.deeper (envOfC qual scope s.heap.objs.size f cd)) (leaving (envOfC qual scope s.heap.objs.size f cd) e) (fun _ s'' => CX outer H s E e s'') (fun e' s'' => CX outer H s E e' s'') s'

theorem cell_has {sc : Scope} {n : Nat} {x : Str} (h : sc.names.lookup x = some .cell) : ∃ c, (cellsFrom n sc.names []).lookup x = some c := by
  have q := PySem.W.cellsFrom_some sc.names n [] (.inl h)
  exact Option.isSome_iff_exists.mp q

theorem inv_start {CX : CXT} {P : Program} {w : World} {K : PySem.W.Frag} {mg : Str → Option Value} {base : Heap} {N ps : List Str} {qual : Str} {scope : Scope} {f : Addr} {cd : Value} {A : Around} {outer : List Env} {s s1 : Shared} {H : Hp} {E : XK} {us : List Value} {vs : List V}
    (S : FnScope N ps scope) (hd : A.handled = none) (e0 : Env0 P w K mg base A outer s H) (hl : vs.length = ps.length) (r : Vals vs us)
    (x : InCallC s s.heap.objs.size (bindL (envOfC qual scope s.heap.objs.size f cd).kindOf (ps.zip us) fun _ => none) (cellsFrom (s.heap.objs.size + 1) scope.names []) (bindC (envOfC qual scope s.heap.objs.size f cd).kindOf (ps.zip us) fun _ => none) s1) (htk : 0 < s1.toks) :
    Inv (cxOf CX P w K mg base N qual scope f cd A outer s H E) [] (start N vs) H s1 := by
  have hpl : ps.length ≤ N.length := by have := congrArg List.length S.pre; rw [List.length_take] at this; omega
  obtain ⟨h1, tk, rfl, hk⟩ := x.done
  have noA : ∀ b : Addr, b ∉ (cxOf CX P w K mg base N qual scope f cd A outer s H E).ex := fun b z => absurd (show b ∈ ([] : List Addr) from z) (by simp)
  refine ⟨⟨e0.mod, S.kind, rfl, rfl, Nat.le_refl _, fun y z c h1 h2 => ?_, fun y hy => ?_, fun y c _ h => ?_, fun _ => hd, Around.frames_deeper e0.frames, .inr ⟨rfl, rfl⟩, fun b z => absurd z (noA b), e0.bs, e0.bsz, fun b _ _ => noA b, fun b z => absurd z (noA b), e0.funs, e0.frf⟩,
    rfl, e0.bare, Un.kept hk, ⟨_, x.toInCall.ns, fun i y v h1 h2 h3 => ?_⟩, fun y c h => ⟨_, x.cell y c h⟩, e0.hok.fresh (Nat.le_refl _), fun y c h => ?_, fun p hp => absurd (show p ∈ ([] : List (Addr × Obj)) from hp) (by simp), e0.hok.kept hk, ?_, htk⟩
  · exact name_of_addr x.apart (PySem.mem_of_lookup h1) (PySem.mem_of_lookup h2)
  · have hy : scope.names.lookup y = some .cell ∨ scope.names.lookup y = some .free := hy
    rcases hy with hy | hy
    · exact cell_has hy
    · exact absurd rfl (S.nofree _ (PySem.mem_of_lookup hy))
  · exact Nat.le_of_lt (x.above y c (PySem.mem_of_lookup h))
  · have hi : i < vs.length := by
      unfold start at h2
      by_cases hi : i < vs.length
      · exact hi
      · rw [List.getElem?_append_right (by simpa using hi)] at h2
        rw [List.getElem?_replicate] at h2
        split at h2 <;> cases h2
    have ha : vs[i]? = some v := by
      unfold start at h2
      rw [List.getElem?_append_left (by simpa using hi), List.getElem?_map] at h2
      cases e : vs[i]? with
      | none => rw [e] at h2; cases h2
      | some a => rw [e] at h2; cases h2; rfl
    obtain ⟨u, hu, rv⟩ := r.get ha
    have hp : ps[i]? = some y := by
      rw [← S.pre, List.getElem?_take_of_lt (by omega)]; exact h1
    have ndP : ps.Nodup := by rw [← S.pre]; exact S.nd.sublist (List.take_sublist _ _)
    refine ⟨u, rv, ?_⟩
    rcases S.par y (List.mem_of_getElem? hp) with k | k
    · exact .inl ⟨k, bindL_get ndP hp hu k⟩
    · obtain ⟨c, e⟩ := cell_has (n := s.heap.objs.size + 1) k
      refine .inr ⟨.inl k, c, e, ?_⟩
      have q := x.cell y c e
      rw [bindC_get ndP hp hu (by show scope.names.lookup y ≠ _; rw [k]; decide)] at q
      exact q
  · exact e0.hok.fresh (Nat.le_of_lt (x.above y c (PySem.mem_of_lookup h)))
  · unfold start
    show _ = N.length
    rw [List.length_append, List.length_map, List.length_replicate]
    omega

/-- THE RULE: a def (or a method) of the text, by its body. The body's reading t is chosen for each entry; it is run at the parameters' values -/
theorem fn_of {CX : CXT} {P : Program} {w : World} {K : PySem.W.Frag} {mg : Str → Option Value} {base : Heap} {k : Nat} {f : Addr} {name qual : Str} {params : Arguments} {body : List Stmt} {scope : Scope} {dV kV doc pm cdv ct oc : Value} {an od : Option Addr}
    {osl : Array (Option Value)} {N ps : List Str} {sp : Sp} (lk : K.lookup f = some ⟨oc, od, .func (PySem.W.fnOf name qual params body scope dV kV doc pm an cdv ct), osl⟩) (hcd : PySem.W.codeIn K cdv qual = true) (S : FnScope N ps scope)
    (len : ∀ vs H Q E, sp vs H Q E → vs.length = ps.length)
    (hbody : ∀ (A : Around) (outer : List Env) (s : Shared) (H : Hp) (vs : List V) (Q : VK) (E : XK), Room k (A.deeper (envOfC qual scope s.heap.objs.size f cdv)) → sp vs H Q E →
      ∃ t, PSs (cxOf CX P w K mg base N qual scope f cdv A outer s H E) body t ∧ t { nx := fun _ H' => Q .non H', rt := Q } (start N vs) H) :
    FnOk P w K mg base CX (k + 1) f (PySem.W.fnOf name qual params body scope dV kV doc pm an cdv ct) ps sp := by
  refine ⟨len, fun A outer s H args us vs Q E hr e0 hb r hsp => ?_⟩
  have hl := len _ _ _ _ hsp
  have KX : K.In s.heap := e0.mod.kin.keeps fun b o e => (e0.bs b o e).1
  have lim : s.heap.NoLimit := e0.mod.nolimit.keeps fun b o e => (e0.bs b o e).1
  have hkind : ∀ y ∈ ps.zip us, scope.names.lookup y.1 = some .local ∨ (scope.names.lookup y.1 = some .cell ∧ ((cellsFrom (s.heap.objs.size + 1) scope.names []).lookup y.1).isSome = true) := fun ⟨n, v⟩ hy => by
    rcases S.par n (List.of_mem_zip hy).1 with q | q
    · exact .inl q
    · exact .inr ⟨q, PySem.W.cellsFrom_some _ _ _ (.inl q)⟩
  refine codeAny_call_function hr.depth (KX _ _ lk) rfl S.co S.gen rfl (PySem.W.codeRec_of KX hcd) (hb _ _ _ _ ?_)
  refine tokQ e0.tk (wpAny_newFunctionEnv_cells S.kind hkind fun env he s1 x htk => ?_)
  subst he
  refine ⟨lim.keeps x.toInCall.keep, codeAny_func ?_⟩
  obtain ⟨t, ht, hq⟩ := hbody A outer s H vs Q E (hr.deeper _) hsp
  have I : Inv (cxOf CX P w K mg base N qual scope f cdv A outer s H E) [] (start N vs) H s1 := inv_start S hr.hd e0 hl r x htk
  refine wpAny_mono (ht [] s1 (start N vs) H _ I hq) (fun fl s' hs => ?_) fun e s' hs => hs
  have fin : ∀ {σ' : St} {H' : Hp} {v : V} {u : Value}, Inv (cxOf CX P w K mg base N qual scope f cdv A outer s H E) [] σ' H' s' → RelV v u → Q v H' → CE outer P w H s Q u s' :=
    fun {σ' H' v u} J rv q => ⟨v, H', J.tk, J.os, J.bare, J.base, J.hok, rv, q⟩
  cases fl with
  | ret u =>
    obtain ⟨v, σ', H', J, rv, q⟩ := hs
    exact fin J rv q
  | next =>
    obtain ⟨σ', H', J, q⟩ := hs
    exact fin (v := V.non) (u := Value.none) J rfl q
  | brk =>
    obtain ⟨_, _, _, q⟩ := hs
    exact False.elim q
  | cont =>
    obtain ⟨_, _, _, q⟩ := hs
    exact False.elim q
end L2

namespace L2
open PySem PySem.Spec PyProof.Rows
section
variable {X : Cx} {x : Str} {p pos : Pos} {e : Expr} {es : List Expr} {t : TA} {id T : String} {r : List V → Hp → VK → Prop}

def tCB (r : List V → Hp → VK → Prop) (t : TA) : TE := fun σ H Q => t σ H fun vs H1 => r vs H1 Q
/-- f(e, ..), f a built-in function -/
theorem pe_callB (hc : CallR X (.builtin id) r) (hg : Gl X x) (hm : X.mg x = none) (hv : bootBuiltins x = some (.builtin id)) (ha : PA X (e :: es) t) (hn : x ≠ "__name__" := by decide) (hdb : (x == ("__debug__" : Str)) = false := by decide)
    (he : starEach (e :: es) X.env = (false, eval e X.env) :: starEach es X.env := by rfl) (hpl : (backTo pos (starEach es X.env)).any (·.1) = false := by rfl) : PE X (.Call (.Name x p) (e :: es) [] pos) (tCB r t) := by
  intro pins s σ H Q I h
  refine wpAny_Call_Name_kw (ld_blt I hg hm hv ?_ hn hdb)
  exact PyProof.Rows.callWith_builtin1 (thn (ha pos pins s σ H _ I h) fun us s1 ⟨vs, H1, I1, r1, q1⟩ => hc pins s1 σ H1 vs us Q I1 r1 q1) he hpl
/-- T(e, ..), T a built-in type -/
theorem pe_callTy (hc : CallR X (.type T) r) (hg : Gl X x) (hm : X.mg x = none) (hv : bootBuiltins x = some (.type T)) (ha : PA X (e :: es) t) (hn : x ≠ "__name__" := by decide) (hdb : (x == ("__debug__" : Str)) = false := by decide)
    (he : starEach (e :: es) X.env = (false, eval e X.env) :: starEach es X.env := by rfl) (hpl : (backTo pos (starEach es X.env)).any (·.1) = false := by rfl) : PE X (.Call (.Name x p) (e :: es) [] pos) (tCB r t) := by
  intro pins s σ H Q I h
  refine wpAny_Call_Name_kw (ld_blt I hg hm hv ?_ hn hdb)
  exact PyProof.Rows.callWith_type1 (thn (ha pos pins s σ H _ I h) fun us s1 ⟨vs, H1, I1, r1, q1⟩ => hc pins s1 σ H1 vs us Q I1 r1 q1) he hpl
end
end L2

namespace HT
open PySem PyProof.Rows

section
open PySem.SeqAt
open PySem.AutoSeq1 (wpAny_loadPart')
open PySem.MeetsSeq PySem.MeetsSeq2 PySem.MeetsSeq3

end

section
variable {prog : Program} {w : World} {A : Around} {E : Value → Shared → Prop} {s : Shared}

/-! ### t[a:b], not the whole -/
/-- a slice's bound as a place among n (d where it is left out) -/
def sIx (n d : Nat) : Option Int → Nat
  | none => d
  | some v => if v < 0 then (v + (n : Int)).toNat else min v.toNat n
theorem sIx_none (n d : Nat) : sIx n d none = d := rfl
theorem sIx_nat (n d k : Nat) : sIx n d (some (k : Int)) = min k n := by
  show (if (k : Int) < 0 then ((k : Int) + (n : Int)).toNat else min (k : Int).toNat n) = min k n
  rw [if_neg (by omega), Int.toNat_natCast]
end
end HT

namespace L2
open PySem PySem.Spec PyProof.Rows

/-! ### the parts of a slice -/
abbrev TO := St → Hp → (Option Int → Hp → Prop) → Prop
/-- a slice's part (left out, or an int) -/
def PO (X : Cx) (e : Option Expr) (t : TO) : Prop :=
  ∀ (pins : List (Addr × Obj)) (s : Shared) (σ : St) (H : Hp) (Q : Option Int → Hp → Prop), Inv X pins σ H s → t σ H Q →
    wpAny (model X.prog X.w) X.A (evalPart e X.env) (fun u s' => ∃ o H', Inv X pins σ H' s' ∧ IsPart u o ∧ Q o H') X.xe s
def tNoPart : TO := fun _ H Q => Q none H
def tPart (t : TE) : TO := fun σ H Q => t σ H fun x H1 => ∃ i, x = .int i ∧ Q (some i) H1

theorem intsAre_of {ns : List Int} : ∀ {us : List Value}, Vals (ns.map V.int) us → IntsAre us ns := by
  induction ns with
  | nil => intro us r; rw [List.map_nil] at r; cases r; exact .nil
  | cons n ns ih =>
    intro us r
    rw [List.map_cons] at r
    cases r with
    | cons r1 r2 =>
      obtain ⟨t, e⟩ := r1
      subst e
      exact .cons n t (ih r2)

section
variable {X : Cx} {e : Expr} {te : TE} {lo hi : Option Expr} {tl th : TO} {pos p2 : Pos}

theorem po_none : PO X none tNoPart := by
  intro pins s σ H Q I h
  rw [evalPart_none]
  exact wpAny_pure ⟨none, H, I, .none, h⟩
theorem po_some (h : PE X e te) : PO X (some e) (tPart te) := by
  intro pins s σ H Q I hw
  rw [evalPart_some]
  refine thn (h pins s σ H _ I hw) fun u s1 ⟨x, H1, I1, r1, q1⟩ => ?_
  obtain ⟨i, rfl, q⟩ := q1
  obtain ⟨t, rfl⟩ := r1
  exact ⟨some i, H1, I1, .int i t, q⟩

/-- what a slice of a value is, by values: the slice object stands at sl -/
def SlR (X : Cx) (r : V → Option Int → Option Int → Hp → VK → Prop) : Prop :=
  ∀ (pins : List (Addr × Obj)) (s : Shared) (σ : St) (H : Hp) (x : V) (v vl vu : Value) (lo hi : Option Int) (sl : Addr) (Q : VK), Inv X pins σ H s → RelV x v → s.heap.IsSliceOf sl vl vu .none → IsPart vl lo → IsPart vu hi → r x lo hi H Q →
    ∃ T id, typeLookup (.type T) "__getitem__" = pure (some (.builtin id)) ∧ s.TypeIs v T ∧ wpAny (model X.prog X.w) X.A (getItem v (.ref sl)) (EP X pins σ Q) X.xe s
theorem SlR.or {r r' : V → Option Int → Option Int → Hp → VK → Prop} (h : SlR X r) (h' : SlR X r') : SlR X (fun x lo hi H Q => r x lo hi H Q ∨ r' x lo hi H Q) := by
  intro pins s σ H x v vl vu lo hi sl Q I rx hs pl pu q
  rcases q with q | q
  · exact h pins s σ H x v vl vu lo hi sl Q I rx hs pl pu q
  · exact h' pins s σ H x v vl vu lo hi sl Q I rx hs pl pu q
def tSl (r : V → Option Int → Option Int → Hp → VK → Prop) (te : TE) (tl th : TO) : TE := fun σ H Q => te σ H fun x H1 => tl σ H1 fun l H2 => th σ H2 fun u H3 => r x l u H3 Q
/-- a[lo:hi], any a -/
theorem pe_slice {r : V → Option Int → Option Int → Hp → VK → Prop} (hr : SlR X r) (he : PE X e te) (hl : PO X lo tl) (hu : PO X hi th) : PE X (.Subscript e (.Slice lo hi none p2) pos) (tSl r te tl th) := by
  intro pins s σ H Q I h
  refine Subscript_ (thn (he pins s σ H _ I h) fun v s1 ⟨x, H1, I1, r1, q1⟩ => ?_)
  refine wpAny_Slice (thn (hl pins s1 σ H1 _ I1 q1) fun vl s2 ⟨l, H2, I2, pl, q2⟩ => thn (hu pins s2 σ H2 _ I2 q2) fun vu s3 ⟨u, H3, I3, pu, q3⟩ => ?_)
  rw [evalPart_none]
  refine wpAny_pure ?_
  have I4 : Inv X pins σ H3 { s3 with heap := s3.heap.push { cls := .type "slice", data := .fields #[vl, vu, .none] } } := I3.kept (t' := s3.toks) fun b ob q => Heap.get?_push_of_some _ q
  obtain ⟨T, id, hT, ht, hg⟩ := hr pins { s3 with heap := s3.heap.push { cls := .type "slice", data := .fields #[vl, vu, .none] } } σ H3 x v vl vu l u s3.heap.objs.size Q I4 r1 (Heap.IsSliceOf.new ..) pl pu q3
  show wpAny (model X.prog X.w) X.A (subscriptTail e (.Slice lo hi none p2) v (.ref s3.heap.objs.size)) (EP X pins σ Q) X.xe { s3 with heap := s3.heap.push { cls := .type "slice", data := .fields #[vl, vu, .none] } }
  exact tail_any (ops := [.ref s3.heap.objs.size, v]) ht hT hg (by with_unfolding_all rfl)

/-- the items of xs[lo:hi] -/
def cutV (xs : List V) (lo hi : Option Int) : List V := (xs.drop (HT.sIx xs.length 0 lo)).take (HT.sIx xs.length xs.length hi - HT.sIx xs.length 0 lo)
theorem cutV_length (xs : List V) (lo hi : Option Int) : (cutV xs lo hi).length ≤ xs.length := by
  unfold cutV
  rw [List.length_take, List.length_drop]
  omega
/-! ### t < u, t + u -/
end
end L2

namespace L2
open PySem PySem.Spec PyProof.Rows

/-! ### places -/
/-- the place that an index of any sign means -/
def ixN (n : Nat) (i : Int) : Option Nat := if 0 ≤ i then (if i < n then some i.toNat else none) else if -(n : Int) ≤ i then some (i + n).toNat else none
def atI {α : Type} (xs : List α) (i : Int) : Option α := (ixN xs.length i).bind fun j => xs[j]?
theorem ixN_seq {n : Nat} {i : Int} {j : Nat} (h : ixN n i = some j) : seqIndex? i n = some j ∧ j < n ∧ -(n : Int) ≤ i ∧ i < n := by
  unfold ixN at h
  by_cases h0 : 0 ≤ i
  · rw [if_pos h0] at h
    by_cases h1 : i < n
    · rw [if_pos h1] at h
      have e : i.toNat = j := Option.some.inj h
      exact ⟨by rw [seqIndex_of h0 h1, e], by omega, by omega, h1⟩
    · rw [if_neg h1] at h; cases h
  · rw [if_neg h0] at h
    by_cases h1 : -(n : Int) ≤ i
    · rw [if_pos h1] at h
      have e : (i + n).toNat = j := Option.some.inj h
      exact ⟨by rw [seqIndex_neg (by omega) h1, e], by omega, h1, by omega⟩
    · rw [if_neg h1] at h; cases h
theorem atI_get {α : Type} {xs : List α} {i : Int} {v : α} (h : atI xs i = some v) : ∃ j, seqIndex? i xs.length = some j ∧ xs[j]? = some v ∧ j < xs.length ∧ -(xs.length : Int) ≤ i ∧ i < xs.length := by
  unfold atI at h
  cases e : ixN xs.length i with
  | none => rw [e] at h; cases h
  | some j =>
    rw [e] at h
    obtain ⟨h1, h2, h3, h4⟩ := ixN_seq e
    exact ⟨j, h1, h, h2, h3, h4⟩
theorem atI_nat {α : Type} {xs : List α} {j : Nat} {v : α} (h : xs[j]? = some v) : atI xs (j : Int) = some v := by
  have hj : j < xs.length := (List.getElem?_eq_some_iff.mp h).1
  have e : ixN xs.length (j : Int) = some j := by
    unfold ixN
    rw [if_pos (by omega), if_pos (by omega)]; simp
  unfold atI; rw [e]; exact h
/-! ### what may be subscripted -/
/-- what stands as an index of a plain subscript -/
def PlainIx (b : Expr) : Prop := ∀ o i, subscripted b false o i = operate [o, i] (getItem o i)
/-- a subscript by values -/
def IxR (X : Cx) (r : R2) : Prop :=
  ∀ (value slice : Expr) (pins : List (Addr × Obj)) (s : Shared) (σ : St) (H : Hp) (x y : V) (v u : Value) (Q : VK), Inv X pins σ H s → RelV x v → RelV y u → r x y H Q →
    subscripted slice false v u = operate [v, u] (getItem v u) → wpAny (model X.prog X.w) X.A (subscriptTail value slice v u) (EP X pins σ Q) X.xe s
/-- a call of a builtin's method by values: the receiver, the arguments -/
def MtR (X : Cx) (id : String) (r : V → List V → Hp → VK → Prop) : Prop :=
  ∀ (pins : List (Addr × Obj)) (s : Shared) (σ : St) (H : Hp) (x : V) (xs : List V) (v : Value) (us : List Value) (Q : VK), Inv X pins σ H s → RelV x v → Vals xs us → r x xs H Q →
    wpAny (model X.prog X.w) X.A (call (.builtin id) (v :: us)) (EP X pins σ Q) X.xe s
section
variable {X : Cx} {a b : Expr} {ta tb : TE} {pos : Pos}
theorem IxR.or {r r' : R2} (h : IxR X r) (h' : IxR X r') : IxR X (fun x y H Q => r x y H Q ∨ r' x y H Q) := by
  intro value slice pins s σ H x y v u Q I rx ry q hs
  rcases q with q | q
  · exact h value slice pins s σ H x y v u Q I rx ry q hs
  · exact h' value slice pins s σ H x y v u Q I rx ry q hs
theorem MtR.or {id : String} {r r' : V → List V → Hp → VK → Prop} (h : MtR X id r) (h' : MtR X id r') : MtR X id (fun x xs H Q => r x xs H Q ∨ r' x xs H Q) := by
  intro pins s σ H x xs v us Q I rx rs q
  rcases q with q | q
  · exact h pins s σ H x xs v us Q I rx rs q
  · exact h' pins s σ H x xs v us Q I rx rs q
/-- a[b] -/
theorem pe_ix {r : R2} (hr : IxR X r) (ha : PE X a ta) (hb : PE X b tb) (hs : PlainIx b) : PE X (.Subscript a b pos) (tOp r ta tb) := by
  intro pins s σ H Q I h
  exact Subscript_ (binT ha hb I h fun v u s2 x y H2 I2 rx ry q => hr a b pins s2 σ H2 x y v u Q I2 rx ry q (hs _ _))

def rIxL (K : PySem.W.Frag) : R2 := fun x y H Q => ∃ p xs i v, x = .ref p ∧ y = .int i ∧ SqL K H p xs ∧ atI xs i = some v ∧ Q v H
def rIxT (K : PySem.W.Frag) : R2 := fun x y H Q => ∃ p xs i v, x = .ref p ∧ y = .int i ∧ SqT K H p xs ∧ atI xs i = some v ∧ Q v H
def rIxS : R2 := fun x y H Q => ∃ z i c, x = .str z ∧ y = .int i ∧ z.length ≤ sizeLine ∧ atI z.cps.toList i = some c ∧ Q (.str ⟨#[c]⟩) H
theorem ix_list : IxR X (rIxL X.K) := by
  intro value slice pins s σ H x y v u Q I rx ry h hs
  obtain ⟨p, xs, i, z, rfl, rfl, hq, he, q⟩ := h
  cases rx
  obtain ⟨t, rfl⟩ := ry
  obtain ⟨its, r, pl, hz⟩ := I.list hq
  obtain ⟨j, h1, h2, h3, h4, h5⟩ := atI_get he
  obtain ⟨w, ew, rw'⟩ := r.get h2
  have hl := r.length
  have hn := line63
  have fin : EP X pins σ Q w s := ⟨z, H, I, rw', q⟩
  by_cases h0 : 0 ≤ i
  · have hj : i.toNat = j := by
      rw [seqIndex_of h0 h5] at h1
      exact Option.some.inj h1
    exact item_listR pl.isList h0 (by omega) (by rw [hj]; simpa using ew) fin hs
  · have hj : (i + (its.toArray.size : Int)).toNat = j := by
      rw [seqIndex_neg (by omega) h4] at h1
      rw [List.size_toArray, ← hl]
      exact Option.some.inj h1
    exact subscriptTail_builtinR (x := w) pl.isList.typeIs slot_list_getitem.lookup
      (wpAny_getItem_list_neg (Q := fun r s' => r = w ∧ EP X pins σ Q r s') pl.isList (by omega) (by rw [List.size_toArray] <;> omega) (by omega) (by rw [hj]; simpa using ew) ⟨rfl, fin⟩) hs
theorem ix_tup : IxR X (rIxT X.K) := by
  intro value slice pins s σ H x y v u Q I rx ry h hs
  obtain ⟨p, xs, i, z, rfl, rfl, hq, he, q⟩ := h
  cases rx
  obtain ⟨t, rfl⟩ := ry
  obtain ⟨its, r, pl, hz⟩ := I.tuple hq
  obtain ⟨j, h1, h2, h3, h4, h5⟩ := atI_get he
  obtain ⟨w, ew, rw'⟩ := r.get h2
  have hl := r.length
  have hn := line63
  have fin : EP X pins σ Q w s := ⟨z, H, I, rw', q⟩
  exact subscriptTail_builtinR (x := w) pl.typeIs slot_tuple_getitem.lookup
    (getItem_tuple (j := j) (Q := fun r s' => r = w ∧ EP X pins σ Q r s') pl (by omega) (by omega) (by rw [List.size_toArray, ← hl]; exact h1) (by simpa using ew) ⟨rfl, fin⟩) hs
theorem ix_str : IxR X rIxS := by
  intro value slice pins s σ H x y v u Q I rx ry h hs
  obtain ⟨z, i, c, rfl, rfl, hz, he, q⟩ := h
  obtain ⟨t, rfl⟩ := rx
  obtain ⟨t', rfl⟩ := ry
  obtain ⟨j, h1, h2, h3, h4, h5⟩ := atI_get he
  have hl : z.cps.toList.length = z.length := by simp [Str.length]
  rw [hl] at h1 h4 h5
  have hn := line63
  exact tail_any (typeIs_str s z t) slot_str_getitem.lookup (getItem_str (c := c) (by
    have e1 : decide (i < -(2 ^ 63 : Int)) = false := decide_eq_false (by omega)
    have e2 : decide (i ≥ 2 ^ 63) = false := decide_eq_false (by omega)
    rw [e1, e2, Bool.or_false]) (by rw [h1]; simpa using h2) ⟨.str ⟨#[c]⟩, H, I.tok _, ⟨_, rfl⟩, q⟩) hs
/-- list, tuple or str -/
def rIx (K : PySem.W.Frag) : R2 := fun x y H Q => rIxL K x y H Q ∨ rIxT K x y H Q ∨ rIxS x y H Q
theorem ix_seq : IxR X (rIx X.K) := ix_list.or (ix_tup.or ix_str)

/-! ### xs[i] = v, any sign -/
theorem Inv.lst {pins : List (Addr × Obj)} {σ : St} {H : Hp} {s : Shared} {p : Addr} {xs : List V} (I : Inv X pins σ H s) (h : H p = some (.lst xs)) :
    ∃ (its : List Value) (n : Nat), Vals xs its ∧ s.heap.get? p = some { cls := .type "list", data := .seq its.toArray n } ∧ xs.length ≤ sizeLine := by
  obtain ⟨z, its, n, r, e⟩ := I.hok p _ h
  exact ⟨its, n, r, e, z⟩
def rSetL : V → V → V → Hp → (Hp → Prop) → Prop := fun o i v H Q => ∃ p xs k j, o = .ref p ∧ i = .int k ∧ H p = some (.lst xs) ∧ ixN xs.length k = some j ∧ Q (upd H p (.lst (xs.set j v)))
/-! ### slices -/
theorem slice_bounds (lo hi : Option Int) (n : Nat) : (sliceBounds lo hi none n).1 = ((HT.sIx n 0 lo : Nat) : Int) ∧ (sliceBounds lo hi none n).2.1 = ((HT.sIx n n hi : Nat) : Int) ∧ (sliceBounds lo hi none n).2.2 = 1 := by
  refine ⟨?_, ?_, rfl⟩
  · cases lo with
    | none => simp [sliceBounds, HT.sIx]
    | some i =>
      simp only [sliceBounds, HT.sIx, Option.getD_none, show (1 : Int) > 0 by decide, if_true]
      by_cases h : i < 0
      · simp only [h, if_true] <;> omega
      · simp only [h, if_false] <;> omega
  · cases hi with
    | none => simp [sliceBounds, HT.sIx]
    | some i =>
      simp only [sliceBounds, HT.sIx, Option.getD_none, show (1 : Int) > 0 by decide, if_true]
      by_cases h : i < 0
      · simp only [h, if_true] <;> omega
      · simp only [h, if_false] <;> omega
theorem slicePick_cut (its : List Value) (lo hi : Option Int) : slicePick its.toArray lo hi none = ((its.drop (HT.sIx its.length 0 lo)).take (HT.sIx its.length its.length hi - HT.sIx its.length 0 lo)).toArray := by
  obtain ⟨h1, h2, h3⟩ := slice_bounds lo hi its.toArray.size
  unfold slicePick
  rw [h1, h2, h3]
  simp only [sliceRange_one, pick_run, List.size_toArray] <;> rfl
/-- xs[lo:hi] of a list: a new list -/
def rSlL (K : PySem.W.Frag) : V → Option Int → Option Int → Hp → VK → Prop := fun x lo hi H Q => ∃ a xs, x = .ref a ∧ SqL K H a xs ∧ ∀ p, H p = none → Q (.ref p) (upd H p (.lst (cutV xs lo hi)))
theorem sl_list : SlR X (rSlL X.K) := by
  intro pins s σ H x v vl vu lo hi sl Q I rx hs pl pu h
  obtain ⟨a, xs, rfl, hx, q⟩ := h
  cases rx
  obtain ⟨its, r, ht, hz⟩ := I.list hx
  have hlen := r.length
  refine ⟨"list", _, slot_list_getitem.lookup, ht.isList.typeIs, ?_⟩
  refine wpAny_getItem_list_slice ht.isList hs pl pu .none (by simp) ?_ (by rw [List.size_toArray] <;> omega)
  rw [slicePick_cut, ← hlen]
  refine ⟨.ref s.heap.objs.size, _, I.laid (t' := s.toks) (o := .lst (cutV xs lo hi)) (fun b ob q => Heap.get?_push_of_some _ q) (Nat.le_refl _) ?_, rfl, q _ (I.hok.fresh (Nat.le_refl _))⟩
  exact ⟨Nat.le_trans (cutV_length xs lo hi) hz, _, 0, (r.drop (HT.sIx xs.length 0 lo)).take (HT.sIx xs.length xs.length hi - HT.sIx xs.length 0 lo), Heap.get?_push_size _ rfl⟩

/-! ### in, not in: flat items -/
def flatV : V → Bool
  | .non => true
  | .bl _ => true
  | .int _ => true
  | .str _ => true
  | _ => false
/-- == of flat values -/
def eqV : V → V → Bool
  | .non, .non => true
  | .bl a, .bl b => a == b
  | .bl a, .int b => (if a then 1 else 0) == b
  | .int a, .bl b => a == (if b then 1 else 0)
  | .int a, .int b => a == b
  | .str a, .str b => a == b
  | _, _ => false
theorem eqAt_V {A : Around} {s : Shared} {y x : V} {u v : Value} (ry : RelV y u) (rx : RelV x v) (fy : flatV y = true) (fx : flatV x = true) : SeqAt.EqAt A s u v (eqV y x) := by
  cases y with
  | non =>
    cases ry
    cases x with
    | non => cases rx; exact SeqAt.EqAt.same _
    | bl b => cases rx; exact SeqAt.EqAt.none_bool b
    | int b => obtain ⟨t, rfl⟩ := rx; exact SeqAt.EqAt.none_int b t
    | str b => obtain ⟨t, rfl⟩ := rx; exact SeqAt.EqAt.none_str b t
    | _ => exact absurd (show false = true from fx) Bool.false_ne_true
  | bl a =>
    cases ry
    cases x with
    | non => cases rx; exact SeqAt.EqAt.bool_none a
    | bl b => cases rx; exact SeqAt.EqAt.bool_bool a b
    | int b => obtain ⟨t, rfl⟩ := rx; exact SeqAt.EqAt.bool_int a b t
    | str b => obtain ⟨t, rfl⟩ := rx; exact SeqAt.EqAt.bool_str a b t
    | _ => exact absurd (show false = true from fx) Bool.false_ne_true
  | int a =>
    obtain ⟨t', rfl⟩ := ry
    cases x with
    | non => cases rx; exact SeqAt.EqAt.int_none a t'
    | bl b => cases rx; exact SeqAt.EqAt.int_bool a t' b
    | int b => obtain ⟨t, rfl⟩ := rx; exact SeqAt.EqAt.int_int a t' b t
    | str b => obtain ⟨t, rfl⟩ := rx; exact SeqAt.EqAt.int_str a t' b t
    | _ => exact absurd (show false = true from fx) Bool.false_ne_true
  | str a =>
    obtain ⟨t', rfl⟩ := ry
    cases x with
    | non => cases rx; exact SeqAt.EqAt.str_none a t'
    | bl b => cases rx; exact SeqAt.EqAt.str_bool a t' b
    | int b => obtain ⟨t, rfl⟩ := rx; exact SeqAt.EqAt.str_int a t' b t
    | str b => obtain ⟨t, rfl⟩ := rx; exact SeqAt.EqAt.str_str a t' b t
    | _ => exact absurd (show false = true from fx) Bool.false_ne_true
  | _ => exact absurd (show false = true from fy) Bool.false_ne_true
/-- the items' answers, read off the values (a value's own answer does not lean on its token) -/
def eqU (x : V) (u : Value) : Bool := match u with
  | .none => eqV .non x
  | .bool b => eqV (.bl b) x
  | .int i _ => eqV (.int i) x
  | .str z _ => eqV (.str z) x
  | _ => false
theorem eqU_of {x y : V} {u : Value} (r : RelV y u) (f : flatV y = true) : eqU x u = eqV y x := by
  cases y with
  | non => cases r; rfl
  | bl b => cases r; rfl
  | int i => obtain ⟨t, rfl⟩ := r; rfl
  | str z => obtain ⟨t, rfl⟩ := r; rfl
  | _ => exact absurd (show false = true from f) Bool.false_ne_true
theorem any_eqU {x : V} : ∀ {xs : List V} {us : List Value}, Vals xs us → xs.all flatV = true → us.any (eqU x) = xs.any fun y => eqV y x
  | _, _, .nil, _ => rfl
  | y :: xs, u :: us, .cons r t, f => by
    rw [List.all_cons, Bool.and_eq_true] at f
    rw [List.any_cons, List.any_cons, eqU_of r f.1, any_eqU t f.2]
theorem mem_eqAt {A : Around} {s : Shared} {x : V} {v : Value} (rx : RelV x v) (fx : flatV x = true) : ∀ {xs : List V} {us : List Value}, Vals xs us → xs.all flatV = true → ∀ u ∈ us, SeqAt.EqAt A s u v (eqU x u)
  | _, _, .nil, _ => fun u hu => by cases hu
  | y :: xs, u :: us, .cons r t, f => fun u' hu => by
    rw [List.all_cons, Bool.and_eq_true] at f
    rcases List.mem_cons.mp hu with rfl | hu
    · rw [eqU_of r f.1]; exact eqAt_V r rx f.1 fx
    · exact mem_eqAt rx fx t f.2 u' hu
def inV (x : V) (xs : List V) : Bool := xs.any fun y => eqV y x
/-- x in a list or tuple of flat items -/
def rIn (K : PySem.W.Frag) (neg : Bool) : R2 := fun x y H Q => ∃ p xs, y = .ref p ∧ (SqL K H p xs ∨ SqT K H p xs) ∧ flatV x = true ∧ xs.all flatV = true ∧ Q (.bl (if neg then !inV x xs else inV x xs)) H
theorem op_in_seq : OpR X (compareOp .In) (rIn X.K false) := by
  intro pins s σ H x y v u Q I rx ry h
  obtain ⟨p, xs, rfl, hq, fx, fs, q⟩ := h
  cases ry
  rcases hq with hq | hq
  · obtain ⟨its, r, pl, hz⟩ := I.list hq
    refine SeqAt.in_listAt (eqU x) pl.isList (fun w hw => mem_eqAt rx fx r fs w (by simpa using hw)) ⟨.bl _, H, I, rfl, ?_⟩
    rw [show its.toArray.any (eqU x) = its.any (eqU x) by simp, any_eqU r fs]
    exact q
  · obtain ⟨its, r, pl, hz⟩ := I.tuple hq
    refine SeqAt.in_tupleAt (eqU x) pl (fun w hw => mem_eqAt rx fx r fs w (by simpa using hw)) ⟨.bl _, H, I, rfl, ?_⟩
    rw [show its.toArray.any (eqU x) = its.any (eqU x) by simp, any_eqU r fs]
    exact q
theorem op_notIn_seq : OpR X (compareOp .NotIn) (rIn X.K true) := by
  intro pins s σ H x y v u Q I rx ry h
  obtain ⟨p, xs, rfl, hq, fx, fs, q⟩ := h
  cases ry
  rcases hq with hq | hq
  · obtain ⟨its, r, pl, hz⟩ := I.list hq
    refine SeqAt.notIn_listAt (eqU x) pl.isList (fun w hw => mem_eqAt rx fx r fs w (by simpa using hw)) ⟨.bl _, H, I, rfl, ?_⟩
    rw [show its.toArray.any (eqU x) = its.any (eqU x) by simp, any_eqU r fs]
    exact q
  · obtain ⟨its, r, pl, hz⟩ := I.tuple hq
    refine SeqAt.notIn_tupleAt (eqU x) pl (fun w hw => mem_eqAt rx fx r fs w (by simpa using hw)) ⟨.bl _, H, I, rfl, ?_⟩
    rw [show its.toArray.any (eqU x) = its.any (eqU x) by simp, any_eqU r fs]
    exact q
/-! ### len, list(x), tuple(x) of any list or tuple that is read -/
theorem call_len_seq : CallR X (.builtin "len") (fun xs H Q => ∃ p ys, xs = [.ref p] ∧ (SqL X.K H p ys ∨ SqT X.K H p ys) ∧ Q (.int ys.length) H) := by
  intro pins s σ H xs us Q I r h
  obtain ⟨p, ys, rfl, hq, q⟩ := h
  obtain ⟨u, rfl, rx⟩ := vals1 r
  cases rx
  have hn := line63
  rcases hq with hq | hq
  · obtain ⟨its, r', pl, hz⟩ := I.list hq
    have hlen := r'.length
    exact Calls.call_len_list pl.isList (by simp only [List.size_toArray] <;> omega) ⟨.int ys.length, H, I.tok _, ⟨s.toks + 1, by rw [List.size_toArray, hlen]⟩, q⟩
  · obtain ⟨its, r', pl, hz⟩ := I.tuple hq
    have hlen := r'.length
    exact len_tuple pl (by simp only [List.size_toArray] <;> omega) ⟨.int ys.length, H, I.tok _, ⟨s.toks + 1, by rw [List.size_toArray, hlen]⟩, q⟩
theorem call_len_str : CallR X (.builtin "len") (fun xs H Q => ∃ z, xs = [.str z] ∧ z.length ≤ sizeLine ∧ Q (.int z.length) H) := by
  intro pins s σ H xs us Q I r h
  obtain ⟨z, rfl, hz, q⟩ := h
  obtain ⟨u, rfl, t, rfl⟩ := vals1 r
  have hn := line63
  exact len_str (by omega) ⟨.int z.length, H, I.tok _, ⟨_, rfl⟩, q⟩
theorem CallR.or {f : Value} {r r' : List V → Hp → VK → Prop} (h : CallR X f r) (h' : CallR X f r') : CallR X f (fun xs H Q => r xs H Q ∨ r' xs H Q) := by
  intro pins s σ H xs us Q I rs q
  rcases q with q | q
  · exact h pins s σ H xs us Q I rs q
  · exact h' pins s σ H xs us Q I rs q
theorem call_list_of : CallR X (.type "list") (fun xs H Q => ∃ p ys, xs = [.ref p] ∧ (SqL X.K H p ys ∨ SqT X.K H p ys) ∧ ∀ l, H l = none → Q (.ref l) (upd H l (.lst ys))) := by
  intro pins s σ H xs us Q I r h
  obtain ⟨p, ys, rfl, hq, q⟩ := h
  obtain ⟨u, rfl, rx⟩ := vals1 r
  cases rx
  have fin : ∀ (its : List Value), Vals ys its → ys.length ≤ sizeLine → ∀ (h' : Heap) (c' : Nat), (∀ b o', s.heap.get? b = some o' → h'.get? b = some o') →
      h'.get? s.heap.objs.size = some { cls := .type "list", dict := none, data := .seq its.toArray c', slots := #[] } → EP X pins σ Q (.ref s.heap.objs.size) { s with heap := h' } := fun its r' hz h' c' kp e =>
    ⟨.ref s.heap.objs.size, _, I.laid (t' := s.toks) kp (Nat.le_refl _) (show ObjOk X.prog X.w _ h' _ (.lst ys) from ⟨hz, its, c', r', e⟩), rfl, q _ (I.hok.fresh (Nat.le_refl _))⟩
  rcases hq with hq | hq
  · obtain ⟨its, r', pl, hz⟩ := I.list hq
    have hlen := r'.length
    obtain ⟨o, ho, hc, n, hd⟩ := pl.isList
    exact call_list_seq p (.inl rfl) ho hc hd (fun h' c' kp e => fin its r' hz h' c' kp e) (by simp only [List.size_toArray] <;> omega)
  · obtain ⟨its, r', pl, hz⟩ := I.tuple hq
    have hlen := r'.length
    obtain ⟨o, ho, hc, n, hd⟩ := pl
    exact call_list_seq p (.inr rfl) ho hc hd (fun h' c' kp e => fin its r' hz h' c' kp e) (by simp only [List.size_toArray] <;> omega)
/-! ### the call of a builtin's method: o.m(..) -/
/-- the value is of that builtin type -/
def tyV (K : PySem.W.Frag) (T : String) (x : V) (H : Hp) : Prop := match x with
  | .str _ => T = "str"
  | .int _ => T = "int"
  | .ref p => (T = "list" ∧ ∃ xs, SqL K H p xs) ∨ (T = "tuple" ∧ ∃ o, K.lookup p = some o ∧ o.cls = .type "tuple" ∧ o.dict = none) ∨
      (T = "dict" ∧ ((∃ kvs, H p = some (.dK kvs)) ∨ ∃ kvs, H p = some (.dT kvs))) ∨ (T = "set" ∧ ∃ S n, H p = some (.set S n))
  | _ => False
theorem tyV_is {pins : List (Addr × Obj)} {σ : St} {H : Hp} {s : Shared} {T : String} {x : V} {v : Value} (I : Inv X pins σ H s) (r : RelV x v) (ty : tyV X.K T x H) :
    s.TypeIs v T ∧ ∀ a, v = .ref a → ∃ ob, s.heap.get? a = some ob ∧ ob.dict = none := by
  cases x with
  | str z =>
    obtain ⟨t, rfl⟩ := r
    cases (show T = "str" from ty)
    exact ⟨typeIs_str s z t, fun _ e => nomatch e⟩
  | int i =>
    obtain ⟨t, rfl⟩ := r
    cases (show T = "int" from ty)
    exact ⟨typeIs_int s i t, fun _ e => nomatch e⟩
  | ref p =>
    cases r
    rcases ty with ⟨rfl, xs, hq⟩ | ⟨rfl, o, hk, hc, hd⟩ | ⟨rfl, hk⟩ | ⟨rfl, S, n, hk⟩
    · obtain ⟨its, _, pl, _⟩ := I.list hq
      refine ⟨pl.isList.typeIs, fun a e => ?_⟩
      cases e
      obtain ⟨o, n, e, c, hd, _⟩ := pl
      exact ⟨o, e, hd⟩
    · refine ⟨⟨o, I.kIn p o hk, hc⟩, fun a e => ?_⟩
      cases e
      exact ⟨o, I.kIn _ o hk, hd⟩
    · have z : ∃ o, s.heap.get? p = some o ∧ o.ExactDict := by
        rcases hk with ⟨kvs, hk⟩ | ⟨kvs, hk⟩
        · obtain ⟨_, _, _, _, o, _, _, e, ex, _⟩ := I.hok p _ hk
          exact ⟨o, e, ex⟩
        · obtain ⟨_, _, _, _, o, _, _, e, ex, _⟩ := I.hok p _ hk
          exact ⟨o, e, ex⟩
      obtain ⟨o, e, ex⟩ := z
      refine ⟨⟨o, e, ex.1⟩, fun a e2 => ?_⟩
      cases e2
      exact ⟨o, e, ex.2.1⟩
    · obtain ⟨o, _, _, _, e, ex, _⟩ := I.hok p _ hk
      refine ⟨⟨o, e, ex.1⟩, fun a e2 => ?_⟩
      cases e2
      exact ⟨o, e, ex.2.1⟩
  | _ => exact False.elim ty
def tBM (K : PySem.W.Frag) (T : String) (r : V → List V → Hp → VK → Prop) (to : TE) (t : TA) : TE := fun σ H Q => to σ H fun x H1 => tyV K T x H1 ∧ t σ H1 fun xs H2 => r x xs H2 Q
variable {o e : Expr} {es : List Expr} {to : TE} {t : TA} {name : Str} {apos cpos : Pos} {T id : String} {r : V → List V → Hp → VK → Prop}
theorem pe_bm (pa : PlainAttrs T) (slot : Slot T name id) (hty : typeOf (.builtin id) = pure (.type "method_descriptor")) (hm : MtR X id r) (ho : PE X o to) (ha : PA X (e :: es) t)
    (hbase : attributeBase o name X.env (eval o X.env) = eval o X.env := by rfl)
    (hfew : ((backTo cpos (starEach (e :: es) X.env)).all (fun x => !x.1) && (backToKw cpos (keywordEach [] X.env)).all (fun x => x.1.isSome)
      && decide ((e :: es).length + ([] : List Keyword).length + (if ([] : List Keyword).isEmpty then 0 else 1) < 30)) = true := by rfl)
    (hline : (apos.endLine == cpos.line) = true := by rfl) (hs : starEach (e :: es) X.env = (false, eval e X.env) :: starEach es X.env := by rfl) (hplain : (backTo cpos (starEach es X.env)).any (·.1) = false := by rfl) :
    PE X (.Call (.Attribute o name apos) (e :: es) [] cpos) (tBM X.K T r to t) := by
  intro pins s σ H Q I h
  refine wpAny_Call_method_late hbase hfew hline rfl (thn (ho pins s σ H _ I h) fun v s1 ⟨x, H1, I1, r1, ty, q1⟩ => ?_)
  obtain ⟨h1, h2⟩ := tyV_is I1 r1 ty
  refine ⟨T, id, pa, slot, hty, h1, h2, ?_⟩
  have hA := ha cpos pins s1 σ H1 _ I1 q1
  rw [hs] at hA ⊢
  refine Calls.callWith_builtin (by show (false || (backTo cpos (starEach es X.env)).any (·.1)) = false; rw [hplain] <;> rfl) (Calls.evalArgs_plain ?_)
  exact thn hA fun us s2 ⟨vs, H2, I2, r2, q2⟩ => hm pins s2 σ H2 x vs v us Q I2 r1 r2 q2
/- xs.append(e), list.index on a module's tuple .. are MtR facts of 06m -/
end
end L2

namespace L2
open PySem PySem.Spec PyProof.Rows

def MtM (X : Cx) (id : String) (r : V → List V → Hp → VK → Prop) : Prop :=
  ∀ (pins : List (Addr × Obj)) (s : Shared) (σ : St) (H : Hp) (x : V) (xs : List V) (v : Value) (us : List Value) (Q : VK), Inv X pins σ H s → RelV x v → Vals xs us → r x xs H Q →
    wpAny (model X.prog X.w) X.A (call (.builtin id) (v :: us)) (EP X pins σ Q) X.xe s

/-! ### lists of values -/
theorem Vals.one : ∀ {x : V} {us : List Value}, Vals [x] us → ∃ u, us = [u] ∧ RelV x u
  | _, _, .cons r .nil => ⟨_, rfl, r⟩
theorem Vals.two : ∀ {x y : V} {us : List Value}, Vals [x, y] us → ∃ u v, us = [u, v] ∧ RelV x u ∧ RelV y v
  | _, _, _, .cons r (.cons q .nil) => ⟨_, _, rfl, r, q⟩
theorem Vals.zero : ∀ {us : List Value}, Vals [] us → us = []
  | _, .nil => rfl
theorem Vals.eraseIdx : ∀ {xs : List V} {us : List Value} (i : Nat), Vals xs us → Vals (xs.eraseIdx i) (us.eraseIdx i)
  | _, _, _, .nil => .nil
  | _, _, 0, .cons _ t => t
  | _, _, i + 1, .cons r t => .cons r (Vals.eraseIdx i t)
theorem Vals.reverse {xs : List V} {us : List Value} (h : Vals xs us) : Vals xs.reverse us.reverse := by
  induction h with
  | nil => exact .nil
  | cons r t ih => rw [List.reverse_cons, List.reverse_cons]; exact Vals.append ih (.cons r .nil)
theorem Vals.rep {xs : List V} {us : List Value} (h : Vals xs us) : ∀ k : Nat, Vals (List.replicate k xs).flatten (List.replicate k us).flatten
  | 0 => .nil
  | k + 1 => by
    rw [List.replicate_succ, List.replicate_succ, List.flatten_cons, List.flatten_cons]
    exact Vals.append h (Vals.rep h k)
theorem foldl_rep (its : List Value) : ∀ (k : Nat) (acc : List Value),
    List.foldl (fun x1 x2 => x1 ++ x2) acc.toArray (List.replicate k its.toArray) = (acc ++ (List.replicate k its).flatten).toArray
  | 0, acc => by simp
  | k + 1, acc => by
    have e : acc.toArray ++ its.toArray = (acc ++ its).toArray := by simp
    have e2 : (acc ++ its) ++ (List.replicate k its).flatten = acc ++ (List.replicate (k + 1) its).flatten := by
      rw [List.replicate_succ, List.flatten_cons, List.append_assoc]
    rw [← e2, ← foldl_rep its k (acc ++ its), ← e, List.replicate_succ, List.foldl_cons]

section
variable {X : Cx} {pins : List (Addr × Obj)} {σ : St} {H : Hp} {s : Shared} {l b : Addr} {xs ys zs : List V}

/-! ### the two steps: a tracked list is rewritten, a new list is laid -/
theorem Inv.lset {its its' : List Value} {n : Nat} {f : Array Value → Array Value} {t' : Nat} (I : Inv X pins σ H s) (hH : H l = some (.lst xs))
    (e : s.heap.get? l = some { cls := .type "list", data := .seq its.toArray n }) (hf : f its.toArray = its'.toArray) (hv : Vals ys its') (hz : ys.length ≤ sizeLine) (ht : 0 < t' := by first | assumption | exact Nat.succ_pos _ | (apply Inv.tk; assumption) | omega) :
    Inv X pins σ (upd H l (.lst ys)) { s with heap := s.heap.update l (Obj.mapSeq f), toks := t' } := by
  have q := PySem.IsL.update e f
  rw [hf] at q
  refine I.write (x := l) (e := l) (by rw [hH]; exact trivial) (.inl rfl) (fun b' u hb hu => (Heap.get?_update_other s.heap (Obj.mapSeq f) (Ne.symm hb)).trans hu) ⟨_, q⟩ ?_
  exact ⟨hz, its', _, hv, q⟩
theorem Inv.lnew {its : List Value} {t' : Nat} (I : Inv X pins σ H s) (hv : Vals ys its) (hz : ys.length ≤ sizeLine) (ht : 0 < t' := by first | assumption | exact Nat.succ_pos _ | (apply Inv.tk; assumption) | omega) :
    Inv X pins σ (upd H s.heap.objs.size (.lst ys)) { s with heap := s.heap.push { cls := .type "list", data := .seq its.toArray }, toks := t' } :=
  I.laid (fun _ _ q => Heap.get?_push_of_some _ q) (Nat.le_refl _) ⟨hz, its, 0, hv, Heap.get?_push_size _ rfl⟩
theorem Inv.fresh (I : Inv X pins σ H s) : H s.heap.objs.size = none := I.hok.fresh (Nat.le_refl _)
theorem Inv.lstM (I : Inv X pins σ H s) (hH : H l = some (.lst xs)) : xs.length ≤ sizeLine ∧ ∃ (its : List Value) (n : Nat), Vals xs its ∧ xs.length = its.length ∧ s.heap.get? l = some { cls := .type "list", data := .seq its.toArray n } := by
  obtain ⟨z, its, n, r, e⟩ := I.hok l _ hH
  exact ⟨z, its, n, r, r.length, e⟩

theorem notLongL {n : Nat} (h : n ≤ sizeLine) : Builtin.List.listTooLong n = false := by
  unfold Builtin.List.listTooLong
  exact decide_eq_false (by omega)
end

section
variable {X : Cx}

/-! ### methods -/
def rAppend : V → List V → Hp → VK → Prop := fun x vs H Q => ∃ l xs y, x = .ref l ∧ vs = [y] ∧ H l = some (.lst xs) ∧ xs.length < sizeLine ∧ Q .non (upd H l (.lst (xs ++ [y])))
theorem mt_append : MtM X "list.append" rAppend := by
  intro pins s σ H x vs v us Q I rx rv h
  obtain ⟨l, xs, y, rfl, rfl, hH, hz, q⟩ := h
  cases rx
  obtain ⟨u, rfl, ru⟩ := rv.one
  obtain ⟨z, its, n, r, hl, e⟩ := I.lstM hH
  refine call_meets F.slot_list_append ⟨_, e, rfl⟩ F.entry_list_append (F.args_list_append_2 _ _) (PySem.list_append l its.toArray n u (by rw [List.size_toArray]; omega)) ⟨e, ?_⟩
  refine ⟨.non, _, I.lset (its' := its ++ [u]) hH e (by simp) (r.append (.cons ru .nil)) ?_, rfl, q⟩
  rw [List.length_append, List.length_singleton]
  omega

/-! ### list + list, list += list, list * int -/
def rCat : R2 := fun x y H Q => ∃ l b xs zs, x = .ref l ∧ y = .ref b ∧ H l = some (.lst xs) ∧ H b = some (.lst zs) ∧ xs.length + zs.length ≤ sizeLine ∧ ∀ p, H p = none → Q (.ref p) (upd H p (.lst (xs ++ zs)))
theorem op_cat : OpR X (binaryOp .Add) rCat := by
  intro pins s σ H x y v u Q I rx ry h
  obtain ⟨l, b, xs, zs, rfl, rfl, hH, hB, hz, q⟩ := h
  cases rx
  cases ry
  obtain ⟨z, its, n, r, hl, e⟩ := I.lstM hH
  obtain ⟨z2, its2, n2, r2, hl2, e2⟩ := I.lstM hB
  refine PySem.P.add_list e e2 ?_ (by rw [List.size_toArray, List.size_toArray]; omega)
  have ea : its.toArray ++ its2.toArray = (its ++ its2).toArray := by simp
  rw [ea]
  exact ⟨.ref _, _, I.lnew (t' := s.toks) (r.append r2) (by rw [List.length_append]; omega), rfl, q _ I.fresh⟩
/-- a list times an int (a negative one is nothing) -/
def rRep : R2 := fun x y H Q => ∃ l k xs, x = .ref l ∧ y = .int k ∧ H l = some (.lst xs) ∧ -(2 ^ 63) ≤ k ∧ k < 2 ^ 63 ∧ xs.length * k.toNat ≤ sizeLine ∧
  ∀ p, H p = none → Q (.ref p) (upd H p (.lst (List.replicate k.toNat xs).flatten))
theorem len_rep {α : Type} (xs : List α) (k : Nat) : (List.replicate k xs).flatten.length = k * xs.length := by
  induction k with
  | zero => simp
  | succ k ih => rw [List.replicate_succ, List.flatten_cons, List.length_append, ih, Nat.succ_mul, Nat.add_comm]
theorem op_rep : OpR X (binaryOp .Mult) rRep := by
  intro pins s σ H x y v u Q I rx ry h
  obtain ⟨l, k, xs, rfl, rfl, hH, h1, h2, hz, q⟩ := h
  cases rx
  obtain ⟨t, rfl⟩ := ry
  obtain ⟨z, its, n, r, hl, e⟩ := I.lstM hH
  have hlen : its.toArray.size * k.toNat ≤ sizeLine := by rw [List.size_toArray, ← hl]; exact hz
  have hcap : ¬ its.toArray.size * k.toNat > (2 ^ 63 - 1) / 8 := by
    have : (sizeLine : Nat) ≤ (2 ^ 63 - 1) / 8 := by decide
    omega
  have hfit : ¬ (!Builtin.List.listFitsIndex k) = true := by
    rw [fitsIndex_both h1 h2]
    exact Bool.false_ne_true
  have hlong : ¬ Builtin.List.listTooLong (its.toArray.size * k.toNat) = true := by
    rw [notLongL hlen]
    exact Bool.false_ne_true
  have hnew : List.foldl (fun x1 x2 => x1 ++ x2) #[] (List.replicate (if its.toArray.isEmpty = true then 0 else k.toNat) its.toArray) = (List.replicate k.toNat its).flatten.toArray := by
    have f0 : ∀ m : Nat, List.foldl (fun x1 x2 => x1 ++ x2) #[] (List.replicate m its.toArray) = (List.replicate m its).flatten.toArray := fun m => by
      have := foldl_rep its m []
      rw [List.nil_append] at this
      exact this
    rw [f0]
    cases its with
    | nil => simp
    | cons a r' => rw [if_neg (by simp)]
  refine wpAny_binaryOp_repeat_ref (T := "list") (U := "int") (by decide) ⟨_, e, rfl⟩ (fun s' => typeIs_int s' k t) noFill_list_mul F.fills_int_mul F.slot_int_rmul repeat_list F.slot_int_index.lookup
    (call_meets F.slot_int_rmul (typeIs_int s k t) F.entry_int_rmul (F.args_int_rmul_2 _ _) (int___rmul___int_list k t l its.toArray n)
      ⟨e, rfl, ⟨_, e, rfl⟩, call_meets F.slot_list_mul ⟨_, e, rfl⟩ F.entry_list_mul (F.args_list_mul_2 _ _) (AutoListH.list___mul___list_int_3 l its.toArray n k t hfit hcap hlong) ⟨e, ?_⟩⟩)
  rw [hnew]
  exact ⟨.ref _, _, I.lnew (t' := s.toks) (r.rep k.toNat) (by rw [len_rep, Nat.mul_comm]; exact hz), rfl, q _ I.fresh⟩

/-! ### del xs[i] -/
end

/-! ### xs[a:b] = ys -/
section
variable {prog : Program} {w : World} {A : Around} {E : Value → Shared → Prop} {s : Shared}
end

section
variable {X : Cx}
end
end L2

namespace Att
open PySem PySem.W PySem.Calls PyProof.Rows

/-! ### the script -/
theorem ints_of_wellAll {P : Params} {h : Heap} : ∀ (ns : List Int) (vs : List Value), WellAll P h vs (ns.map WData.int) → IntsAre vs ns := by
  intro ns
  induction ns with
  | nil =>
    intro vs w
    rw [List.map_nil] at w
    cases w
    exact .nil
  | cons n ns ih =>
    intro vs w
    rw [List.map_cons] at w
    cases w with
    | cons a b =>
      cases a
      exact .cons _ _ (ih _ b)

theorem script_of {l : OpenLaw} {n : Nat} (hn : l.most = some n) {P : Params} {h : Heap} {args : List WData} {vals : List Value}
    (hpre : l.row.toRowW.claim.pre args = true) (hwl : WellAll P h vals args) :
    ∃ a vs ns, vals = [Value.ref a] ∧ args = [WData.list (ns.map WData.int)] ∧ h.get? a = some { cls := .type "list", data := .seq vs.toArray } ∧ IntsAre vs ns ∧ ns.length ≤ n := by
  have hsh : WShape.hasAll [] args [.list .int] = true := (pre_splitW hpre).1
  have hc : l.pre.holds [] { args := args } = true := (pre_splitW hpre).2
  obtain ⟨d, r, rfl, h1, h2⟩ := hasAllW_cons hsh
  obtain rfl := hasAllW_nil h2
  obtain ⟨xs, rfl, h3⟩ := hasW_list h1
  obtain ⟨ns, rfl⟩ := items_int h3
  have hlen : ns.length ≤ n := by
    unfold OpenLaw.pre at hc
    have h4 : (WTm.not (.lt (.lit (.int (n : Int))) (.len (.arg 0)))).holds [] { args := [.list (ns.map .int)] } = true := by
      have h4 := (holds_andW hc).1
      rw [hn] at h4
      exact h4
    have h5 := condW_of h4 (w_not (w_lt w_lit (w_len_list (w_arg rfl))))
    rw [List.length_map] at h5
    refine Nat.le_of_not_lt fun q => ?_
    have q' : (n : Int) < ((ns.length : Nat) : Int) := by omega
    first
      | (rw [decide_eq_true q'] at h5; exact absurd h5 (by decide))
      | (simp at h5; omega)
  cases hwl with
  | cons w1 w2 =>
    cases w2
    cases w1 with
    | list ho hall => exact ⟨_, _, ns, rfl, rfl, ho, ints_of_wellAll ns _ hall, hlen⟩

theorem post_true (l : OpenLaw) (args : List WData) : l.row.toRowW.claim.post args (.bool true) args = true :=
  postW_of (r := l.row.toRowW) (X := (true == true))
    (show WShape.has [] (.bool true) .bool = true by first | rfl | decide | simp [WShape.has, WShape.arms, WShape.armsAll])
    (show (WTm.eq .res (.lit (.bool true))).value [] { args := args, res := some (.bool true), after := args } = some (.bool (true == true)) from w_eq_bool (w_res rfl) w_lit) rfl

/-! ### the attachment: holds_open's last premise (the goal 'hc' behind k_head) from a wpAny of the law's body -/
/-! ### rules over ANY heap (no ledger) from facts about the written part K: the library's own take a ledger (News) for what they write -/
section
variable {prog : Program} {w : World} {A : Around} {E : Value → Shared → Prop} {s : Shared} {K : Frag}

/-! the whole heap as the ledger: makes every rule that writes through a ledger a rule over any heap -/
def ledger (h : Heap) (L d : Addr) : List (Addr × Obj) := (List.range h.objs.size).filterMap fun a => if a = L ∨ a = d then none else (h.get? a).map fun o => (a, o)
end
end Att

namespace L2
open PySem PySem.Spec PyProof.Rows

theorem vals_ints : ∀ {vs : List Value} {ns : List Int}, IntsAre vs ns → Vals (ns.map V.int) vs
  | _, _, .nil => .nil
  | _, _, .cons n t h => .cons ⟨t, rfl⟩ (vals_ints h)

/-- nothing is tracked but the script, known to the object (or it is an object of the module) -/
def Only (H : Hp) : Prop := ∀ b, H b = none ∨ ∃ o xs, H b = some (.frz o (.lst xs))

/-- THE HEAD: the law's promise, at the heap behind the top. F, the promise of the law's def, may use that base is part of the heap (so K.In base, base.Ns mainGlobals mg stand in Mod) -/
theorem law_call {P : Program} {w : World} {K : PySem.W.Frag} {mg mb : Str → Option Value} {CX : CXT} {k : Nat} {fa a : Addr} {fd : FuncData} {x : Str} {sp : Sp} {s₁ : Shared} {vs : List Value} {ns : List Int}
    (KX : K.In s₁.heap) (hns : s₁.heap.Ns mainGlobals mg) (hb : s₁.heap.Ns builtinsNs mb) (hbb : ∀ x : Str, x ≠ "__name__" → mb x = bootBuiltins x) (hlim : s₁.heap.NoLimit) (hg : s₁.gens = #[]) (htk : 0 < s₁.toks)
    (ha : s₁.heap.get? a = some { cls := .type "list", data := .seq vs.toArray }) (hi : IntsAre vs ns) (hl : ns.length ≤ sizeLine) (hr : Room k callerA)
    (F : ∀ base : Heap, K.In base → base.Ns mainGlobals mg → FnOk P w K mg base CX k fa fd [x] sp) (hbind : ∀ (s : Shared) (u : Value), BindsTo s fd ⟨[u], []⟩ [(x, u)])
    (hsp : ∀ H : Hp, Only H → SqL K H a (ns.map V.int) → sp [.ref a] H (fun v _ => v = .bl true) fun _ _ _ => False)
    (hCX : ∀ H e s', CX [] H s₁ (fun _ _ _ => False) e s' → False) :
    codeAny (model P w) callerA (.call (.ref fa) ⟨[.ref a], []⟩) (fun r s' => r = .ok (.ret (.bool true)) ∧ OldK s₁.heap s'.heap ∧ s'.os = s₁.os ∧ AllBare s'.gens) s₁ := by
  have rv := vals_ints hi
  have lenV := hi.length
  -- from an abstract heap in which nothing but the script may be tracked
  have core : ∀ H : Hp, Only H → SqL K H a (ns.map V.int) → HOk P w H s₁.heap → (∀ b, H b ≠ none → b = a) → (H a ≠ none → K.lookup a = none) →
      codeAny (model P w) callerA (.call (.ref fa) ⟨[.ref a], []⟩) (fun r s' => r = .ok (.ret (.bool true)) ∧ OldK s₁.heap s'.heap ∧ s'.os = s₁.os ∧ AllBare s'.gens) s₁ := by
    intro H hO hS hok hA hK
    have base_of : ∀ {b : Addr} {o : Obj}, s₁.heap.get? b = some o → H b = none → (hidT s₁.heap H).get? b = some o := fun e n => hidT_get e n
    have noA : ∀ {b : Addr} {o : Obj} {es : Array DictEntry} {ep : Nat}, s₁.heap.get? b = some o → o.data = .dict es ep → H b = none := fun {b o es ep} e d => by
      cases q : H b with
      | none => rfl
      | some u =>
        have e' : b = a := hA b (by rw [q]; simp)
        subst e'
        rw [ha] at e; cases e
        have d' : Data.seq vs.toArray _ = Data.dict es ep := d
        cases d'
    have nsK : ∀ {b : Addr} {m : Str → Option Value}, s₁.heap.Ns b m → (hidT s₁.heap H).Ns b m := fun {b m} ⟨o, es, ep, e, d, r⟩ => ⟨o, es, ep, base_of e (noA e d), d, r⟩
    have hKb : K.In (hidT s₁.heap H) := fun b o e => base_of (KX b o e) (by
      cases q : H b with
      | none => rfl
      | some u =>
        have e' : b = a := hA b (by rw [q]; simp)
        subst e'
        rw [hK (by rw [q]; simp)] at e; cases e)
    have hM : Mod K mg (hidT s₁.heap H) := ⟨hKb, nsK hns, ⟨mb, nsK hb, hbb⟩, let ⟨mc, h1, h2⟩ := hlim; ⟨mc, nsK h1, h2⟩⟩
    have e0 : Env0 P w K mg (hidT s₁.heap H) callerA [] s₁ H := ⟨rfl, hM, fun b o e => of_hidT e, Nat.le_of_eq (hidT_size _ _), trivial, fun b hb => absurd (show b ∈ ([] : List Addr) from hb) (by simp), hok, .of_eq hg, htk⟩
    refine codeAny_mono ((F _ hKb (nsK hns)).run callerA [] s₁ H ⟨[.ref a], []⟩ [.ref a] [.ref a] _ _ hr e0 (hbind s₁ (.ref a)) (.cons rfl .nil) (hsp H hO hS)) fun r s' h => ?_
    cases r with
    | error e => exact (hCX H e s' h).elim
    | ok fl =>
      cases fl with
      | next => exact False.elim h
      | brk => exact False.elim h
      | cont => exact False.elim h
      | ret u =>
        obtain ⟨v, H', _, os, bare, un, hok', r', q⟩ := h
        have q' : v = .bl true := q
        subst q'
        obtain rfl : u = Value.bool true := r'
        refine ⟨rfl, OldK.of_keep fun b o e => ?_, os, bare⟩
        cases q : H b with
        | none => exact un.keep b o e q (by intro z; exact absurd (show b ∈ ([] : List Addr) from z) (by simp)) (by simp)
        | some u =>
          rcases hO b with z | ⟨ob, xs, z⟩
          · rw [q] at z; cases z
          · have z2 := un.frzs b ob _ z
            obtain ⟨e1, _⟩ := hok b _ z
            obtain ⟨e2, _⟩ := hok' b _ z2
            rw [e] at e1; cases e1
            exact e2
  cases hk : K.lookup a with
  | some o =>
    -- the script is one of the module's own objects
    have e := KX a o hk
    rw [ha] at e
    cases e
    refine core (fun _ => none) (fun _ => .inl rfl) (.inr ⟨_, vs.toArray, _, hk, rfl, rfl, rfl, by rw [List.size_toArray, lenV]; exact hl, by simpa using rv⟩) (fun b u z => by have z' : (none : Option HO) = some u := z; cases z') (fun b z => absurd rfl z) fun z => absurd rfl z
  | none =>
    refine core (fun b => if b = a then some (.frz { cls := .type "list", data := .seq vs.toArray } (.lst (ns.map V.int))) else none) (fun b => ?_) (.inl (.inr ⟨{ cls := .type "list", data := .seq vs.toArray }, if_pos rfl⟩)) (fun b u z => ?_) (fun b z => ?_) fun _ => hk
    · by_cases hb : b = a
      · exact .inr ⟨_, _, if_pos hb⟩
      · exact .inl (if_neg hb)
    · by_cases hb : b = a
      · have z' := (if_pos hb).symm.trans z
        cases z'
        subst hb
        exact ⟨ha, by rw [List.length_map]; exact hl, vs, _, rv, ha⟩
      · have z' := (if_neg hb).symm.trans z
        cases z'
    · by_cases hb : b = a
      · exact hb
      · exact absurd (if_neg hb) z
end L2

namespace L2
open PySem PySem.Spec PyProof.Rows

abbrev KOf {K : PySem.W.Frag} {h : Heap} (_ : K.In h) : PySem.W.Frag := K

theorem attach_callX {l : PySem.W.OpenLaw} {n : Nat} {q : Program} {loose : List Str} {XP : (Str → Option Value) → Heap → Prop} {α : Type} {Yf : Shared → α} {Ya : World → α} {d : DefRec}
    (hn : l.most = some n) (hdf : d.params.defaults = [])
    (call : ∀ (w : World) (s₀ s₁ : Shared) (mg mb : Str → Option Value) (fa a : Addr) (vs : List Value) (ns : List Int),
      PySem.W.Ground q loose [] XP w s₀ mg mb s₁.heap → Yf s₀ = Ya w → (∀ b o, s₀.heap.get? b = some o → s₁.heap.get? b = some o) → s₀.toks ≤ s₁.toks → mg d.name = some (.ref fa) →
      s₁.heap.get? a = some { cls := .type "list", data := .seq vs.toArray } → IntsAre vs ns → ns.length ≤ n → s₁.gens = #[] →
      codeAny (model l.prog w) callerA (.call (.ref fa) ⟨[.ref a], []⟩) (fun r s' => r = .ok (.ret (.bool true)) ∧ OldK s₁.heap s'.heap ∧ s'.os = s₁.os ∧ AllBare s'.gens) s₁) :
    PySem.W.WalkX q loose XP Yf Ya l.row.toRowW d [] (fun f vs => PySem.call f vs) := by
  intro w s₀ s₁ mg mb G Y fa o pm cd doc dV kV ho hd hcd hD hmg hg args vals as L hpre hlay hrd hwl hlo
  obtain ⟨a, vs, ns, rfl, rfl, hobj, hints, hlen⟩ := Att.script_of hn hpre hwl
  have ht : s₀.toks ≤ s₁.toks := by
    obtain ⟨ord, _, e⟩ := L.laid
    exact (PySem.W.layAllW_grows _ _ _ e).toks
  refine PySem.W.enter_call (codeAny_mono (call w s₀ s₁ mg mb fa a vs ns G Y L.keeps ht hmg hobj hints hlen hg) fun r s' hq => ?_)
  obtain ⟨rfl, h2, h3, h4⟩ := hq
  exact ⟨.inl ⟨.bool true, .bool true, [], rfl, fun _ => rfl, .bool true, Att.post_true l _, fun _ => ⟨List.Pairwise.nil, fun _ hm => (nomatch hm)⟩⟩, h2, h3, h4⟩
theorem walk_ofX {l : PySem.W.OpenLaw} {n k : Nat} {q : Program} {loose : List Str} {XP : (Str → Option Value) → Heap → Prop} {α : Type} {Yf : Shared → α} {Ya : World → α} {d : DefRec} {K : Params → PySem.W.Frag} {CX : World → CXT} {sp : World → Sp} {x : Str}
    (hn : l.most = some n) (hn2 : n ≤ sizeLine) (hdf : d.params.defaults = []) (hr : Room k callerA)
    (hY : ∀ (w : World) (s : Shared), Yf s = Ya w → (K w.params).In s.heap ∧ 0 < s.toks)
    (F : ∀ (w : World) (mg : Str → Option Value) (fa : Addr) (h : Heap), (K w.params).In h → h.Ns mainGlobals mg → mg d.name = some (.ref fa) →
      ∃ fd : FuncData, (∀ (s : Shared) (u : Value), BindsTo s fd ⟨[u], []⟩ [(x, u)]) ∧
        ∀ base : Heap, (K w.params).In base → base.Ns mainGlobals mg → FnOk l.prog w (K w.params) mg base (CX w) k fa fd [x] (sp w))
    (hsp : ∀ (w : World) (H : Hp) (a : Addr) (ns : List Int), ns.length ≤ n → Only H → SqL (K w.params) H a (ns.map V.int) → sp w [.ref a] H (fun v _ => v = .bl true) fun _ _ _ => False)
    (hCX : ∀ (w : World) (H : Hp) (s : Shared) (e : Value) (s' : Shared), CX w [] H s (fun _ _ _ => False) e s' → False) :
    PySem.W.WalkX q loose XP Yf Ya l.row.toRowW d [] (fun f vs => PySem.call f vs) := by
  refine attach_callX hn hdf fun w s₀ s₁ mg mb fa a vs ns G Y kp ht hmg hobj hints hlen hg => ?_
  obtain ⟨K0, t0⟩ := hY w s₀ Y
  have KX : (K w.params).In s₁.heap := fun b o e => kp b o (K0 b o e)
  obtain ⟨fd, hb, hF⟩ := F w mg fa _ KX G.T.g hmg
  exact law_call KX G.T.g G.T.b G.T.builtins G.T.nolimit hg (Nat.lt_of_lt_of_le t0 ht) hobj hints (Nat.le_trans hlen hn2) hr hF hb (fun H hO hS => hsp w H a ns hlen hO hS) fun H e s' => hCX w H s₁ e s'
end L2

/- THE LAST THEOREM (shape; LID, My.* are yours):
   My.Adr: a structure of the addresses that your layer names (classes, functions); My.Txt K t: a structure (Prop) of the equations over K;
   My.txt_mk : {K} {implicit addresses ..} (e1 : nsIn K mainGlobals "law" = some (some (.ref f))) (e2 : K.lookup f = some ⟨oc, od, .func (fnOf "law" "law" params body scope dV kV doc pm an cdv ct), sl⟩) (e3 : codeIn K cdv "law" = true) .. : ∃ t, My.Txt K t

set_option maxRecDepth 100000 in
set_option maxHeartbeats 0 in
theorem PySem.Challenge.cw_LID_holds : PySem.Challenge.rw_LID.Holds := by
  w_on; o_law; k_head; (case hw => w_witness2)
  k_fill
  refine L2.walk_of (l := PySem.Challenge.rw_LID) (n := 63) (k := 40) (x := "script") (CX := fun w => ..) (sp := fun _ => My.sp_law) rfl (by decide) rfl ⟨rfl, by decide, by decide⟩ (fun w h Y => PySem.W.kIn_of Y) ?F ?S ?C
  case F =>
    intro w mg fa h KX G hmg
    have T : ∃ t, My.Txt (L2.KOf KX) t := by
      dsimp only [L2.KOf]                          -- K must stand as «<heap const> w.params» for k_is
      refine' My.txt_mk ?e1 ?e2 ?e3 ..
      (case e1 => PySem.W.k_is)                    -- in the order: a name -> its address -> its object -> its parts
      (case e2 => PySem.W.k_is)
      ..
    obtain ⟨t, T⟩ := T
    have e0 := hmg.symm.trans (PySem.W.mg_of KX G T.law)
    cases e0                                       -- fa is the law's own address
    exact ⟨_, fun s u => .of_eq rfl, fun base kb nb => My.law_fn T kb nb⟩     -- if «.of_eq rfl» comes too early: refine' ⟨_, ?b, fun base kb nb => My.law_fn T kb nb⟩; exact fun s u => .of_eq rfl
  case S => exact fun w H a ns hl hO hS => ..
  case C => exact ..
(the tactic k_is has no namespace: write k_is) -/

/-! SHORT WORDS over the layer: a def of the text, its body, what a loop and a test want. -/
namespace L2
open PySem PySem.Spec PyProof.Rows

/-! ### the text by places -/
def defArgs (s : Stmt) : Arguments := match s with
  | .FunctionDef _ a _ _ _ _ _ _ _ _ => a
  | _ => { posonlyargs := [], args := [], vararg := none, kwonlyargs := [], kw_defaults := [], kwarg := none, defaults := [] }
def defBody (s : Stmt) : List Stmt := match s with
  | .FunctionDef _ _ b _ _ _ _ _ _ _ => b
  | _ => []
def defScope (s : Stmt) : Scope := match s with
  | .FunctionDef _ _ _ _ _ _ sc _ _ _ => sc
  | _ => { kind := .function, names := [], isGenerator := false, isCoroutine := false }

/-! ### no exception leaves a def -/
abbrev CX0 : CXT := fun _ _ _ _ _ _ => False
abbrev E0 : XK := fun _ _ _ => False
theorem pass0 {X : Cx} : Passes CX0 X E0 := fun _ _ _ _ _ _ _ h => h.elim

/-! ### a def (or method) of the text as it stands behind the top -/
structure Fun (K : PySem.W.Frag) (x qual : Str) (st : Stmt) (f : Addr) (fd : FuncData) : Prop where
  ex : ∃ (oc : Value) (od : Option Addr) (kV doc pm : Value) (an : Option Addr) (cdv ct : Value) (osl : Array (Option Value)),
    fd = PySem.W.fnOf x qual (defArgs st) (defBody st) (defScope st) .none kV doc pm an cdv ct ∧ K.lookup f = some ⟨oc, od, .func fd, osl⟩ ∧ PySem.W.codeIn K cdv qual = true
  kp : PySem.W.keepIn K (.ref f) = true
section
variable {P : Program} {w : World} {K : PySem.W.Frag} {mg : Str → Option Value} {base : Heap}
/-- THE RULE for a def: its body as a term of rules, and the reading of that term -/
theorem Fun.ok {x qual : Str} {st : Stmt} {f : Addr} {fd : FuncData} {N ps : List Str} {k : Nat} {sp : Sp} (F : Fun K x qual st f fd) (S : FnScope N ps (defScope st)) (len : ∀ vs H Q E, sp vs H Q E → vs.length = ps.length)
    (hbody : ∀ (cdv : Value) (A : Around) (outer : List Env) (s : Shared) (H : Hp) (vs : List V) (Q : VK) (E : XK), Room k (A.deeper (envOfC qual (defScope st) s.heap.objs.size f cdv)) → sp vs H Q E →
      ∃ t, PSs (cxOf CX0 P w K mg base N qual (defScope st) f cdv A outer s H E).nox (defBody st) t ∧ t { nx := fun _ H' => Q .non H', rt := Q } (start N vs) H) : FnOk P w K mg base CX0 (k + 1) f fd ps sp := by
  obtain ⟨oc, od, kV, doc, pm, an, cdv, ct, osl, rfl, lk, hcd⟩ := F.ex
  refine fn_of lk hcd S len fun A outer s H vs Q E hr hsp => ?_
  obtain ⟨t, h, q⟩ := hbody cdv A outer s H vs Q E hr hsp
  exact ⟨t, h.nox, q⟩
/-- how its arguments bind (no defaults): h is «fun _ _ _ _ _ _ us hl => match us, hl with | [_, _], _ => rfl», one _ a parameter -/
theorem Fun.binds {x qual : Str} {st : Stmt} {f : Addr} {fd : FuncData} {ps : List Str} (F : Fun K x qual st f fd)
    (h : ∀ (kV doc pm : Value) (an : Option Addr) (cdv ct : Value) (us : List Value), us.length = ps.length → bindArgs (PySem.W.fnOf x qual (defArgs st) (defBody st) (defScope st) .none kV doc pm an cdv ct) ⟨us, []⟩ = pure (ps.zip us)) : Binds K fd ps [] := by
  obtain ⟨oc, od, kV, doc, pm, an, cdv, ct, osl, rfl, lk, hcd⟩ := F.ex
  exact .all (h kV doc pm an cdv ct)
theorem fun_mk {x qual : Str} {st : Stmt} {f : Addr} {oc : Value} {od an : Option Addr} {osl : Array (Option Value)} {kV doc pm cdv ct : Value} (l : K.lookup f = some ⟨oc, od, .func (PySem.W.fnOf x qual (defArgs st) (defBody st) (defScope st) .none kV doc pm an cdv ct), osl⟩)
    (c : PySem.W.codeIn K cdv qual = true) (k : PySem.W.keepIn K (.ref f) = true) : Fun K x qual st f (PySem.W.fnOf x qual (defArgs st) (defBody st) (defScope st) .none kV doc pm an cdv ct) := ⟨⟨oc, od, kV, doc, pm, an, cdv, ct, osl, rfl, l, c⟩, k⟩
end
theorem hu_of {A : Around} {k : Nat} (hr : Room k A) : A.units + 1 < cLine := Nat.lt_of_le_of_lt (Nat.add_le_add_left (by decide : 1 ≤ 64) _) hr.units
/-! ### expressions in short: the name that stands in the i-th slot -/
section
variable {X : Cx}
end

/-! ### tests -/
theorem ite2 {c A B : Prop} [Decidable c] (h1 : c → A) (h2 : ¬ c → B) : if c then A else B := by
  by_cases h : c
  · rw [if_pos h]
    exact h1 h
  · rw [if_neg h]
    exact h2 h
/-! ### heaps -/
/-- all that was tracked is as it was -/
def Same (H H' : Hp) : Prop := ∀ b o, H b = some o → H' b = some o
theorem Same.refl (H : Hp) : Same H H := fun _ _ h => h
theorem Same.trans {H H1 H2 : Hp} (a : Same H H1) (b : Same H1 H2) : Same H H2 := fun c o h => b c o (a c o h)
theorem Same.free {H H' : Hp} (e : Same H H') {l : Addr} (h : H' l = Option.none) : H l = Option.none := by
  cases q : H l with
  | none => rfl
  | some o =>
    rw [e l o q] at h
    cases h
theorem Same.seq {K : PySem.W.Frag} {H H' : Hp} {a : Addr} {xs : List V} (e : Same H H') (h : SqL K H a xs) : SqL K H' a xs := by
  rcases h with (h | ⟨o, h⟩) | h
  · exact .inl (.inl (e _ _ h))
  · exact .inl (.inr ⟨o, e _ _ h⟩)
  · exact .inr h

end L2


/-! Further rules over the layer: texts walked, zip, enumerate, list comprehensions, methods of texts. -/
namespace L2
open PySem PySem.Spec PyProof.Rows
section
variable {X : Cx} {pins : List (Addr × Obj)} {σ : St} {H H' : Hp} {s : Shared} {h' : Heap}
/-- several untracked records of ours have turned -/
theorem Inv.turnedL {t' : Nat} {its : List Addr} (I : Inv X pins σ H s) (k : ∀ b o, b ∉ its → s.heap.get? b = some o → h'.get? b = some o) (hf : ∀ b ∈ its, FpOk X pins H b) (ht : 0 < t' := by first | assumption | exact Nat.succ_pos _ | (apply Inv.tk; assumption) | omega) : Inv X pins σ H { s with heap := h', toks := t' } := by
  have nit : ∀ b u, H b = some u → b ∉ its := fun b u e z => by
    have q := (hf b z).1
    rw [q] at e
    cases e
  refine I.step (g' := s.gens) (d' := s.drawn) (ch := its) (fun b hb => ?_) (fun b o _ _ hc e _ => k b o hc e) (fun b o _ _ hc e _ => ⟨o.slots, k b o hc e⟩) (fun _ _ _ _ n => n)
    (fun b o hc e => ⟨o, k b o hc e⟩) (fun _ _ e => e) (fun _ _ _ e => e) (fun b ps e => ⟨#[], by rw [e]; simp⟩) (fun m hm => ?_) (fun b u e => ?_) I.bare
  · obtain ⟨f0, f1, f2, f3, f4, f5⟩ := hf b hb
    exact ⟨f3, f1, f4, f5⟩
  · obtain ⟨o, es, ep, ho, r⟩ := hm
    exact ⟨o, es, ep, k _ o (fun z => (hf _ z).2.1 rfl) ho, r⟩
  · refine (I.hok b u e).stay (fun c v hc q => k c v ?_ q) (fun _ q => q) fun _ _ q => q
    rcases hc with z | z
    · rw [z]; exact nit b u e
    · exact nit c _ z
end

/-! ### a text's signs -/
theorem strIter_no (x : Str) : ["enumerate", "zip", "dict_itemiterator", "dict_reverseitemiterator", "odict_iterator", "itertools.zip_longest", "itertools.pairwise"].contains (strIterType x) = false := by
  unfold strIterType
  split <;> decide
section
variable {prog : Program} {w : World} {A : Around} {E : Value → Shared → Prop} {s : Shared}
theorem strIterType_cases (x : Str) : strIterType x = "str_ascii_iterator" ∨ strIterType x = "str_iterator" := by
  unfold strIterType
  split
  · exact .inl rfl
  · exact .inr rfl
theorem next_str_item {it : Addr} {x : Str} {t : Tok} {i c : Nat} {Q : Option Value → Shared → Prop} (hit : s.heap.IsStrIter it (strIterType x) x t i) (hx : x.cps[i]? = some c)
    (hQ : ∀ h', h'.IsStrIter it (strIterType x) x t (i + 1) → Heap.SameBut it s.heap h' → Q (some (.str ⟨#[c]⟩ s.toks)) { s with heap := h', toks := s.toks + 1 }) :
    wpAny (model prog w) A (pyNext (.ref it)) Q E s := by
  rcases strIterType_cases x with e | e
  · rw [e] at hit
    simp only [e] at hQ
    exact wpAny_pyNext_ascii_item hit hx hQ
  · rw [e] at hit
    simp only [e] at hQ
    exact wpAny_pyNext_wide_item hit hx hQ
theorem next_str_end {it : Addr} {x : Str} {t : Tok} {i : Nat} {Q : Option Value → Shared → Prop} (hh : A.handled = none) (hit : s.heap.IsStrIter it (strIterType x) x t i) (hx : x.cps[i]? = none)
    (hQ : ∀ h', Heap.ExtBut it s.heap h' → Q none { s with heap := h' }) : wpAny (model prog w) A (pyNext (.ref it)) Q E s := by
  rcases strIterType_cases x with e | e
  · rw [e] at hit
    exact wpAny_pyNext_ascii_end hh hit hx hQ
  · rw [e] at hit
    exact wpAny_pyNext_wide_end hh hit hx hQ
theorem iter_str_self {it : Addr} {x : Str} {t : Tok} {i : Nat} {Q : Value → Shared → Prop} (hit : s.heap.IsStrIter it (strIterType x) x t i) (h : Q (.ref it) s) : wpAny (model prog w) A (pyIter (.ref it)) Q E s := by
  rcases strIterType_cases x with e | e
  · rw [e] at hit
    exact wpAny_pyIter_striter_ascii hit h
  · rw [e] at hit
    exact wpAny_pyIter_striter_wide hit h
end
def Its (x : Str) : It := ⟨fun i _ => i < x.cps.size, fun i H v H' => H' = H ∧ ∃ c, x.cps[i]? = some c ∧ v = .str ⟨#[c]⟩, fun i _ => x.cps.size ≤ i⟩
theorem strIter_obj {h : Heap} {it : Addr} {ty : String} {x : Str} {t : Tok} {i : Nat} (st : h.IsStrIter it ty x t i) : ∃ o, h.get? it = some o ∧ ∀ v, o.data ≠ .cell v := by
  obtain ⟨o, e, c, d⟩ := st
  exact ⟨o, e, fun v z => by rw [d] at z; cases z⟩
theorem turn_str {P : Program} {w : World} {K : PySem.W.Frag} {tg : Expr} (x : Str) (t : Tok) (it : Addr) : Turn P w K tg (Its x) [it] it (fun i h => h.IsStrIter it (strIterType x) x t i) where
  mem := by simp
  obj := fun i h st b hb => by
    have e : b = it := by simpa using hb
    subst e
    exact strIter_obj st
  keep := fun i h h' st k => by
    obtain ⟨o, e, r⟩ := st
    exact ⟨o, k it (by simp) o e, r⟩
  item := by
    intro X hP hw hK hc i pins s σ H E I hf st hg
    subst hP hw hK
    have hi : i < x.cps.size := hg
    refine next_str_item st (c := x.cps[i]) (by simp [hi]) fun h' st' sb => ?_
    have I1 : Inv X pins σ H { s with heap := h', toks := s.toks + 1 } := I.turnedL (its := [it]) (fun b o hb e => (sb.2 b (by simpa using hb)).trans e) hf
    obtain ⟨o, e, c, d⟩ := id st'
    exact ⟨_, rfl, go_of (s := { s with heap := h', toks := s.toks + 1 }) e c d (strIter_no x) ⟨.str ⟨#[x.cps[i]]⟩, H, I1, ⟨_, rfl⟩, ⟨rfl, _, by simp [hi], rfl⟩, st', fun b hb => (hf b hb).1⟩⟩
  done := by
    intro X hP hw hK hc i pins s σ H E I hf st hg
    subst hP hw hK
    have hi : x.cps.size ≤ i := hg
    exact next_str_end (I.ok.hd hc) st (by simp [hi]) fun h' eb => ⟨rfl, I.turnedL (t' := s.toks) (its := [it]) (fun b o hb e => eb b o (by simpa using hb) e) hf⟩
  self := fun _ _ _ _ _ st h => iter_str_self st h
section
variable {X : Cx} {tg e : Expr} {te : TE}
end
/-- a loop by its number of turns -/
theorem for_it {J : It} {n : Nat} {g : TG} {tb : TS} {D : Ends} {σ : St} {H : Hp} (Pv : Nat → St → Hp → Prop) (h0 : Pv 0 σ H) (hgo : ∀ i σ H, i < n → Pv i σ H → J.go i H) (hst : ∀ σ H, Pv n σ H → J.stop n H)
    (hs : ∀ i σ H x H', i < n → Pv i σ H → J.yld i H x H' → g x σ H' fun σ2 H2 => tb { D with nx := Pv (i + 1), ct := Pv (i + 1), bk := D.nx } σ2 H2) (hd : ∀ σ H, Pv n σ H → D.nx σ H) :
    ∃ W : Nat → Nat → St → Hp → Prop, (∃ m, W 0 m σ H) ∧ ∀ i m σ H, W i m σ H →
      (J.stop i H ∧ D.nx σ H) ∨ (J.go i H ∧ ∃ N : St → Hp → Prop, (∀ σ' H', N σ' H' → ∃ m', m' < m ∧ W (i + 1) m' σ' H') ∧ ∀ x H', J.yld i H x H' → g x σ H' fun σ2 H2 => tb { D with nx := N, ct := N, bk := D.nx } σ2 H2) := by
  refine ⟨fun i m σ H => m = n - i ∧ i ≤ n ∧ Pv i σ H, ⟨n, by simp, Nat.zero_le _, h0⟩, ?_⟩
  rintro i m σ H ⟨rfl, hi, p⟩
  by_cases hlt : i < n
  · exact .inr ⟨hgo i σ H hlt p, Pv (i + 1), fun σ' H' p' => ⟨n - (i + 1), by omega, rfl, hlt, p'⟩, fun x H' y => hs i σ H x H' hlt p y⟩
  · have e : i = n := by omega
    subst e
    exact .inl ⟨hst σ H p, hd σ H p⟩

/-! ### zip -/
structure Nx (prog : Program) (w : World) (A : Around) (it : Addr) (f : List Addr) (Sa Sb : Heap → Prop) (P : Value → Prop) : Prop where
  fra : ∀ h h', Sa h → (∀ b ∈ f, ∀ o, h.get? b = some o → h'.get? b = some o) → Sa h'
  frb : ∀ h h', Sb h → (∀ b ∈ f, ∀ o, h.get? b = some o → h'.get? b = some o) → Sb h'
  step : ∀ (s : Shared) (Q : Value → Shared → Prop) (E : Value → Shared → Prop), Sa s.heap → (∀ x h' tk, P x → Sb h' → Heap.SameBut it s.heap h' → Q x { s with heap := h', toks := tk }) → wpAny (model prog w) A (Builtin.SmallTypes.nextOf (.ref it)) Q E s
structure Nd (prog : Program) (w : World) (A : Around) (it : Addr) (f : List Addr) (Sa : Heap → Prop) : Prop where
  fra : ∀ h h', Sa h → (∀ b ∈ f, ∀ o, h.get? b = some o → h'.get? b = some o) → Sa h'
  step : ∀ (s : Shared) (Q : Value → Shared → Prop) (E : Value → Shared → Prop), Sa s.heap → (∀ h' e, Heap.ExtBut it s.heap h' → (∃ o, h'.get? e = some o ∧ o.cls = .type "StopIteration") → E (.ref e) { s with heap := h' }) → wpAny (model prog w) A (Builtin.SmallTypes.nextOf (.ref it)) Q E s
structure ZAp (z TI TO i1 i2 : Addr) : Prop where
  TIz : TI ≠ z
  TOz : TO ≠ z
  i1z : i1 ≠ z
  i2z : i2 ≠ z
  TITO : TI ≠ TO
  TIi1 : TI ≠ i1
  TIi2 : TI ≠ i2
  TOi1 : TO ≠ i1
  TOi2 : TO ≠ i2
  i12 : i1 ≠ i2
section
variable {prog : Program} {w : World} {A : Around} {E : Value → Shared → Prop} {s : Shared}
-- the way to the first draw: the fields are read, the kept pair is marked as in use
set_option hygiene false
local macro_rules | `(tactic| walk_at "zip_in") => `(tactic| (
  refine wpAny_bind (m := slotArgs "__next__" 0 _) (wpAny_of_eq (a := (Value.ref _, [])) rfl ?_);
  refine wpAny_bind (m := field _ 2) (wpAny_field hz rfl (x := Value.bool false) rfl (wpAny_bind (m := field _ 3) (wpAny_field hz rfl (x := Value.ref TI) rfl (wpAny_bind (m := seqItems? _) (wpAny_seqItems hTI rfl ?_)))));
  refine wpAny_bind (m := Builtin.SmallTypes.ownedTupleIsFree _) (wpAny_bind (wpAny_field hz rfl (x := Value.none) rfl (wpAny_pure ?_)));
  refine wpAny_bind (wpAny_rule (wpAny_bind (wpAny_field hz rfl (x := Value.ref TO) rfl (wpAny_bind (wpAny_setField_rec hz (by simp) fun g1 zg sg => wpAny_bind ?_)))));
  simp only [List.zipIdx_cons, List.zipIdx_nil, List.forIn_cons, List.forIn_nil]))
set_option hygiene true
end
end L2


namespace L2
open PySem PySem.Spec PyProof.Rows
/-! ### what zip walks -/
inductive Src where
  | str (x : Str) | lst (a : Addr)
def SrcGo (K : PySem.W.Frag) (H : Hp) : Src → Nat → Prop
  | .str x, i => i < x.cps.size
  | .lst a, i => ∃ xs v, SqL K H a xs ∧ xs[i]? = some v
def SrcAt (K : PySem.W.Frag) (H : Hp) : Src → Nat → V → Prop
  | .str x, i, v => ∃ c, x.cps[i]? = some c ∧ v = .str ⟨#[c]⟩
  | .lst a, i, v => ∀ xs, SqL K H a xs → xs[i]? = some v
def SrcEnd (K : PySem.W.Frag) (H : Hp) : Src → Nat → Prop
  | .str x, i => x.cps.size ≤ i
  | .lst a, i => ∃ xs, SqL K H a xs ∧ xs.length ≤ i
def SrcIt (h : Heap) : Src → Addr → Nat → Prop
  | .str x, it, i => ∃ t, h.IsStrIter it (strIterType x) x t i
  | .lst a, it, i => h.IsListIter it a i
theorem SrcIt.obj {h : Heap} {S : Src} {it : Addr} {i : Nat} (st : SrcIt h S it i) : ∃ o, h.get? it = some o ∧ (∀ v, o.data ≠ .cell v) ∧ o.cls ≠ .type "list" ∧ o.cls ≠ .type "zip" ∧ o.cls ≠ .type "tuple" := by
  cases S with
  | str x =>
    obtain ⟨t, o, e, c, d⟩ := st
    refine ⟨o, e, (fun v z => by rw [d] at z; cases z), ?_⟩
    rw [c]
    rcases strIterType_cases x with q | q <;> rw [q] <;> decide
  | lst a =>
    obtain ⟨o, e, c, d⟩ := (show h.IsListIter it a i from st)
    refine ⟨o, e, (fun v z => by rw [d] at z; cases z), ?_⟩
    rw [c]
    decide
theorem SrcIt.keep {h h' : Heap} {S : Src} {it : Addr} {i : Nat} (st : SrcIt h S it i) (k : ∀ o, h.get? it = some o → h'.get? it = some o) : SrcIt h' S it i := by
  cases S with
  | str x =>
    obtain ⟨t, o, e, r⟩ := st
    exact ⟨t, o, k o e, r⟩
  | lst a => exact Heap.IsListIter.at (show h.IsListIter it a i from st) k
section
variable {X : Cx} {pins : List (Addr × Obj)} {σ : St} {H : Hp} {s : Shared} {A : Around}
end
def Itz (K : PySem.W.Frag) (S1 S2 : Src) : It := ⟨fun i H => SrcGo K H S1 i ∧ SrcGo K H S2 i, fun i H v H' => ∃ T x y, v = .ref T ∧ H T = none ∧ H' = upd H T (.tup [x, y]) ∧ SrcAt K H S1 i x ∧ SrcAt K H S2 i y,
  fun i H => SrcEnd K H S1 i ∨ (SrcGo K H S1 i ∧ SrcEnd K H S2 i)⟩
/-! ### zip is made -/
def srcOk (h : Heap) : Src → Prop
  | .str _ => True
  | .lst a => ∃ its, h.IsList a its
theorem srcOk.push {h : Heap} {S : Src} (ok : srcOk h S) (o : Obj) : srcOk (h.push o) S := by
  cases S with
  | str x => trivial
  | lst a =>
    obtain ⟨its, q⟩ := ok
    exact ⟨its, Heap.IsList.push q _⟩
section
variable {prog : Program} {w : World} {A : Around} {E : Value → Shared → Prop} {s : Shared}
end
section
variable {prog : Program} {w : World} {A : Around} {E : Value → Shared → Prop} {s : Shared}
end
section
variable {X : Cx}
end
end L2


namespace L2
open PySem PySem.Spec PyProof.Rows
/-! ### list comprehensions -/
def clOf (cells : List (Str × Addr)) : List (Str × NameKind) → List (Str × Addr) → List (Str × Addr)
  | [], cs => cs
  | (n, k) :: r, cs => clOf cells r (if (k == NameKind.free) = true then (n, (cells.lookup n).getD 0) :: cs else cs)
theorem closureFor_some {scope : Scope} {env : Env} (h : ∀ y ∈ scope.names, y.2 = .free → ∃ c, env.cells.lookup y.1 = some c) : closureFor scope env = pure (clOf env.cells scope.names []) := by
  unfold closureFor
  have key : ∀ (names : List (Str × NameKind)) (cs : List (Str × Addr)), (∀ y ∈ names, y.2 = .free → ∃ c, env.cells.lookup y.1 = some c) →
      (forIn names cs (fun x r => match x with
        | (name, kind) => if (kind == NameKind.free) = true then (do let __do_lift ← cellOf env name; pure (ForInStep.yield ((name, __do_lift) :: r))) else pure (ForInStep.yield r)) : Sem (List (Str × Addr))) = pure (clOf env.cells names cs) := by
    intro names
    induction names with
    | nil => intro cs _; rfl
    | cons y r ih =>
      intro cs hy
      obtain ⟨n, k⟩ := y
      rw [List.forIn_cons]
      have hr : ∀ y ∈ r, y.2 = .free → ∃ c, env.cells.lookup y.1 = some c := fun y hm => hy y (List.mem_cons_of_mem _ hm)
      cases hk : (k == NameKind.free) with
      | true =>
        have hk' : k = .free := by simpa using hk
        obtain ⟨c, hc⟩ := hy (n, k) List.mem_cons_self hk'
        have ec : cellOf env n = pure c := by unfold cellOf; rw [hc]
        have e1 : (clOf env.cells ((n, k) :: r) cs) = clOf env.cells r ((n, c) :: cs) := by
          show clOf env.cells r (if (k == NameKind.free) = true then (n, (env.cells.lookup n).getD 0) :: cs else cs) = _
          rw [hk, if_pos rfl, show env.cells.lookup n = some c from hc]
          rfl
        rw [e1, ← ih _ hr]
        simp only [ec, hk, if_true, pure_bind]
      | false =>
        have e1 : (clOf env.cells ((n, k) :: r) cs) = clOf env.cells r cs := by
          show clOf env.cells r (if (k == NameKind.free) = true then (n, (env.cells.lookup n).getD 0) :: cs else cs) = _
          rw [hk, if_neg Bool.false_ne_true]
        rw [e1, ← ih _ hr]
        simp only [hk, Bool.false_eq_true, if_false, pure_bind]
  have q := key scope.names [] h
  first
    | exact q
    | (simp only [bind_pure]; exact q)
    | (rw [q]; rfl)
theorem clOf_sound {cells : List (Str × Addr)} {x : Str} {c : Addr} : ∀ (names : List (Str × NameKind)) (cs : List (Str × Addr)), (∀ y ∈ names, y.2 = .free → ∃ c, cells.lookup y.1 = some c) → (∀ x c, cs.lookup x = some c → cells.lookup x = some c) →
    (clOf cells names cs).lookup x = some c → cells.lookup x = some c
  | [], cs, _, h, e => h x c e
  | (n, k) :: r, cs, hn, h, e => by
    unfold clOf at e
    refine clOf_sound r _ (fun y hm => hn y (List.mem_cons_of_mem _ hm)) (fun x c q => ?_) e
    split at q
    · rename_i hk
      have hk' : k = .free := by simpa using hk
      obtain ⟨c', hc⟩ := hn (n, k) List.mem_cons_self hk'
      rw [List.lookup_cons] at q
      cases hx : (x == n) with
      | true =>
        rw [hx] at q
        have hx' : x = n := by simpa using hx
        subst hx'
        rw [hc] at q
        simp at q
        rw [hc, q]
      | false =>
        rw [hx] at q
        exact h x c q
    · exact h x c q
theorem clOf_keeps {cells : List (Str × Addr)} {x : Str} : ∀ (names : List (Str × NameKind)) (cs : List (Str × Addr)), (cs.lookup x).isSome = true → ((clOf cells names cs).lookup x).isSome = true
  | [], cs, h => h
  | (n, k) :: r, cs, h => by
    unfold clOf
    refine clOf_keeps r _ ?_
    split
    · rw [List.lookup_cons]
      split
      · rfl
      · exact h
    · exact h
theorem clOf_has {cells : List (Str × Addr)} {x : Str} : ∀ (names : List (Str × NameKind)) (cs : List (Str × Addr)), (x, NameKind.free) ∈ names → ((clOf cells names cs).lookup x).isSome = true
  | [], _, h => by cases h
  | (n, k) :: r, cs, h => by
    unfold clOf
    rcases List.mem_cons.mp h with e | e
    · cases e
      refine clOf_keeps r _ ?_
      simp
    · exact clOf_has r _ e
theorem lookup_relabel (env : Env) (x : Str) : ∀ names : List (Str × NameKind),
    (names.map fun (n, k) => if (k == NameKind.free && env.scope.kind == .function && env.kindOf n == some .cell) then (n, NameKind.cell) else (n, k)).lookup x =
      (names.lookup x).map fun k => if (k == NameKind.free && env.scope.kind == .function && env.kindOf x == some .cell) = true then .cell else k
  | [] => rfl
  | (n, k) :: r => by
    have ih := lookup_relabel env x r
    simp only [List.map_cons]
    cases hx : (x == n) with
    | true =>
      have hx' : x = n := by simpa using hx
      subst hx'
      by_cases hc : (k == NameKind.free && env.scope.kind == .function && env.kindOf x == some .cell) = true
      · rw [if_pos hc, List.lookup_cons, List.lookup_cons, hx]
        show some NameKind.cell = some (if (k == NameKind.free && env.scope.kind == .function && env.kindOf x == some .cell) = true then NameKind.cell else k)
        rw [if_pos hc]
      · rw [if_neg hc, List.lookup_cons, List.lookup_cons, hx]
        show some k = some (if (k == NameKind.free && env.scope.kind == .function && env.kindOf x == some .cell) = true then NameKind.cell else k)
        rw [if_neg hc]
    | false =>
      by_cases hc : (k == NameKind.free && env.scope.kind == .function && env.kindOf n == some .cell) = true
      · rw [if_pos hc]
        simp only [List.lookup_cons, hx]
        exact ih
      · rw [if_neg hc]
        simp only [List.lookup_cons, hx]
        exact ih
/-- the scope of a comprehension -/
structure CScope (scope : Scope) : Prop where
  kind : scope.kind = .function
  nocell : ∀ y ∈ scope.names, y.2 ≠ .cell
  loc : ∀ y ∈ scope.names, y.2 = .local → scope.names.lookup y.1 = some .local
/-- the context of a comprehension's block -/
def cxC (X : Cx) (scope : Scope) (cl : List (Str × Addr)) (N' : List Str) (C : Addr) (s : Shared) (H : Hp) (ex : List Addr) : Cx :=
  { X with N := N', s₀ := s, H₀ := H, env := compEnvC scope cl C X.env, outer := X.stack, ex := ex, fn := fun _ => false, pn := [], xe := fun _ _ => False }
def compσ (nt : Nat) (fi : List Nat) (σ : St) : St := List.replicate nt none ++ fi.map fun j => (σ[j]?).getD none
/-- the names of the block: the targets, then the captured ones; those stand in the enclosing frame at fi -/
structure CNames (X : Cx) (scope : Scope) (nt : Nat) (fi : List Nat) (N' : List Str) : Prop where
  len : N'.length = nt + fi.length
  cap : ∀ k j : Nat, fi[k]? = some j → ∃ x, N'[nt + k]? = some x ∧ X.N[j]? = some x ∧ scope.names.lookup x = some .free
  fre : ∀ y ∈ scope.names, y.2 = .free → X.env.scope.names.lookup y.1 = some .cell ∨ X.env.scope.names.lookup y.1 = some .free
/-- a target that touches no captured slot -/
def GK (nt : Nat) (g : TG) : Prop := ∀ x σ H Q, g x σ H Q → g x σ H fun σ' H' => Q σ' H' ∧ σ'.length = σ.length ∧ σ'.drop nt = σ.drop nt
def PIf (X : Cx) (ifs : List Expr) (t : TT) : Prop :=
  ∀ (pins : List (Addr × Obj)) (s : Shared) (σ : St) (H : Hp) (Q : Bool → Hp → Prop), Inv X pins σ H s → t σ H Q →
    wpAny (model X.prog X.w) X.A (forIn ifs true fun c r => if r = true then do let ok ← isTrue c X.env (eval c X.env); pure (ForInStep.yield ok) else pure (ForInStep.yield r)) (TP X pins σ Q) X.xe s
def tYes : TT := fun _ H Q => Q true H
theorem pif_nil {X : Cx} : PIf X [] tYes := fun pins s σ H Q I h => wpAny_tests_nil ⟨H, I, h⟩
theorem pif_one {X : Cx} {c : Expr} {t : TT} (h : PT X c t) : PIf X [c] t := fun pins s σ H Q I q => wpAny_tests_one (h pins s σ H Q I q)
theorem gk_name {nt i : Nat} (hi : i < nt) : GK nt (gName i) := fun x σ H Q h => by
  refine ⟨h, ?_, ?_⟩
  · rw [List.length_set]
  · rw [List.drop_set_of_lt hi]
theorem gk_tup2 {K : PySem.W.Frag} {nt i j n : Nat} (hi : i < nt) (hj : j < nt) : GK nt (gTup K n (gCons (gName i) (gCons (gName j) gNil))) := fun x σ H Q h => by
  obtain ⟨a, xs, e, hq, hl, v, r, e1, v', r', e2, e3, q⟩ := h
  refine ⟨a, xs, e, hq, hl, v, r, e1, v', r', e2, e3, q, ?_, ?_⟩
  · rw [List.length_set, List.length_set]
  · rw [List.drop_set_of_lt hj, List.drop_set_of_lt hi]
section
variable {prog : Program} {w : World} {A : Around} {R : Result → Shared → Prop} {s : Shared}
theorem thnF {α : Type} {t : Sem α} {Q Q' : α → Shared → Prop} {M : Model} {E : Value → Shared → Prop} (h : wpAny M A t Q (fun _ _ => False) s) (hQ : ∀ a s, Q a s → Q' a s) : wpAny M A t Q' E s := wpAny_mono h hQ fun _ _ f => f.elim
theorem compLoop_any {elt target iter : Expr} {ifs : List Expr} {scope : Scope} {pos : Pos} {it acc : Value} {env : Env} (I : Nat → Shared → Prop)
    (turn : ∀ n s, I n s → wpAny (model prog w) A (pyNext it) (fun r s₁ => match r with
      | none => R (.ok .next) s₁
      | some v => wpAny (model prog w) A (letOwnedTupleGo target it v) (fun _ s₂ => wpAny (model prog w) A (assign target env v) (fun _ s₃ =>
          wpAny (model prog w) A (forIn ifs true fun c r => if r = true then do let ok ← isTrue c env (eval c env); pure (ForInStep.yield ok) else pure (ForInStep.yield r)) (fun ok s₄ =>
            if ok = true then wpAny (model prog w) A (eval elt env) (fun x s₅ => wpAny (model prog w) A (call (.builtin "list.append") [acc, x]) (fun _ s₆ => ∃ m, m < n ∧ I m s₆) (fun _ _ => False) s₅) (fun _ _ => False) s₄
            else ∃ m, m < n ∧ I m s₄) (fun _ _ => False) s₃) (fun _ _ => False) s₂) (fun _ _ => False) s₁) (fun _ _ => False) s)
    (n : Nat) (h : I n s) : codeAny (model prog w) A (.compLoop (.ListComp elt [⟨target, iter, ifs, 0⟩] scope pos) 0 it acc env) R s := by
  refine codeAny_loop rfl I (fun n s hI => ?_) n h
  show wpAny _ A ((compTurn (.ListComp elt [⟨target, iter, ifs, 0⟩] scope pos) 0 it acc env).onRaise (fun x => do noteFrame x env; theTreesLotGoes x)) _ _ s
  refine wpAny_noted ?_
  rw [compTurn_list]
  refine wpAny_bind (wpAny_standAt (wpAny_bind (thnF (turn n s hI) fun r s₁ h₁ => ?_)))
  cases r with
  | none => exact wpAny_pure h₁
  | some v =>
    refine wpAny_bind (thnF h₁ fun _ s₂ h₂ => wpAny_bind (thnF h₂ fun _ s₃ h₃ => wpAny_bind (thnF h₃ fun ok s₄ h₄ => ?_)))
    cases ok with
    | false => exact wpAny_pure ⟨rfl, h₄⟩
    | true => exact wpAny_bind (wpAny_bind (thnF h₄ fun x s₅ h₅ => wpAny_bind (thnF h₅ fun _ s₆ h₆ => wpAny_pure (wpAny_pure ⟨rfl, h₆⟩))))
end
/-- the reading of [elt for target in iter (if test)]: W by the turn, a measure, what has been gathered, the heap -/
def tComp (nt : Nat) (fi : List Nat) (wi : TI) (g : TG) (tc : TT) (te : TE) : TE := fun σ H Q => wi σ H fun J H1 => ∀ D, H1 D = none →
  ∃ W : Nat → Nat → List V → Hp → Prop, (∃ m, W 0 m [] (upd H1 D (.lst []))) ∧ ∀ i m acc H2, W i m acc H2 →
    (J.stop i H2 ∧ Q (.ref D) H2) ∨ (J.go i H2 ∧ ∀ x H3, J.yld i H2 x H3 → g x (compσ nt fi σ) H3 fun σ4 H4 => tc σ4 H4 fun b H5 => if b = true then
      te σ4 H5 fun v H6 => H6 D = some (.lst acc) ∧ acc.length < sizeLine ∧ ∃ m', m' < m ∧ W (i + 1) m' (acc ++ [v]) (upd H6 D (.lst (acc ++ [v]))) else ∃ m', m' < m ∧ W (i + 1) m' acc H5)
theorem compσ_weak {nt : Nat} {fi : List Nat} {σ σ' : St} (hl : σ'.length = (compσ nt fi σ).length) (hd : σ'.drop nt = (compσ nt fi σ).drop nt) : ∀ (i : Nat) v, (compσ nt fi σ)[i]? = some (some v) → σ'[i]? = some (some v) := fun i v e => by
  by_cases hi : i < nt
  · unfold compσ at e
    rw [List.getElem?_append_left (by simpa using hi), List.getElem?_replicate] at e
    split at e <;> cases e
  · have ei : i = nt + (i - nt) := by omega
    have q := congrArg (fun l => l[i - nt]?) hd
    simp only [List.getElem?_drop] at q
    rw [← ei] at q
    rw [q]
    exact e
section
variable {X : Cx}
theorem inv_comp {pins : List (Addr × Obj)} {σ : St} {H : Hp} {s : Shared} {scope : Scope} {nt : Nat} {fi : List Nat} {N' : List Str} {fp : List Addr} {h₁ : Heap} {m : Str → Option Value} {tk : Nat}
    (I : Inv X pins σ H s) (S : CScope scope) (cn : CNames X scope nt fi N') (hf : ∀ b ∈ fp, FpOk X pins H b) (ho : ∀ b ∈ fp, ∃ o, s.heap.get? b = some o)
    (hns : h₁.Ns s.heap.objs.size m) (kp : ∀ b o, s.heap.get? b = some o → h₁.get? b = some o) (htk : 0 < tk) :
    Inv (cxC X scope (clOf X.env.cells scope.names []) N' s.heap.objs.size s H fp) (X.pn ++ pins) (compσ nt fi σ) H { s with heap := h₁, toks := tk } := by
  have hfr : ∀ y ∈ scope.names, y.2 = .free → ∃ c, X.env.cells.lookup y.1 = some c := fun y hy e => I.ok.has y.1 (cn.fre y hy e)
  have snd : ∀ x c, (clOf X.env.cells scope.names []).lookup x = some c → X.env.cells.lookup x = some c := fun x c e => clOf_sound scope.names [] hfr (fun _ _ q => by simp at q) e
  have offstk : ∀ b, b ≠ X.env.locals → b ∉ X.fs → b ∉ frs X.stack := fun b h1 h2 h3 => by
    rcases List.mem_cons.mp (I.stkSub b h3) with e | e
    · exact h1 e
    · exact h2 e
  have lt : ∀ {b o}, s.heap.get? b = some o → b ≠ s.heap.objs.size := fun e => Nat.ne_of_lt (Heap.lt_size e)
  have kinds : ∀ x k, (relabel scope X.env).names.lookup x = some k → (k = .cell ∨ k = .free) → (x, NameKind.free) ∈ scope.names := fun x k e hk => by
    have e' : (scope.names.map fun (n, k) => if (k == NameKind.free && X.env.scope.kind == .function && X.env.kindOf n == some .cell) then (n, NameKind.cell) else (n, k)).lookup x = some k := e
    rw [lookup_relabel] at e'
    cases q : scope.names.lookup x with
    | none => rw [q] at e'; cases e'
    | some k' =>
      have mem : (x, k') ∈ scope.names := PySem.mem_of_lookup q
      rw [q] at e'
      simp only [Option.map_some, Option.some.injEq] at e'
      split at e'
      · rename_i hc
        simp only [Bool.and_eq_true, beq_iff_eq] at hc
        rw [hc.1.1] at mem
        exact mem
      · subst e'
        rcases hk with z | z
        · subst z
          exact absurd rfl (S.nocell _ mem)
        · subst z
          exact mem
  refine ⟨⟨I.ok.mod, S.kind, I.ok.glob, I.ok.blt, Nat.le_refl _, fun x y c e1 e2 => I.ok.inj x y c (snd x c e1) (snd y c e2), fun x hx => ?_, fun x c e => (nomatch e), I.ok.hd, I.ok.frames, .inl rfl, fun b hb => ⟨?_, fun x c e => (hf b hb).2.2.2.2.1 x c (snd x c e)⟩, I.bs, ?_, fun b o e hb => ?_, fun b hb => offstk b (hf b hb).2.1 (hf b hb).2.2.1, I.stack, I.stkFree⟩,
    rfl, I.bare, Un.kept kp, ⟨m, hns, fun i x v e1 e2 e3 => ?_⟩, fun x c e => ?_, I.hok.fresh (Nat.le_refl _), fun x c e => I.freeC x c (snd x c e), fun p hp => ?_, I.hok.kept kp, ?_, htk⟩
  · have hx' : (relabel scope X.env).names.lookup x = some .cell ∨ (relabel scope X.env).names.lookup x = some .free := hx
    have mem : (x, NameKind.free) ∈ scope.names := by
      rcases hx' with q | q
      · exact kinds x _ q (.inl rfl)
      · exact kinds x _ q (.inr rfl)
    exact Option.isSome_iff_exists.mp (clOf_has scope.names [] mem)
  · obtain ⟨o, e⟩ := ho b hb
    exact lt e
  · exact Nat.le_trans I.ok.bsz I.sz
  · rcases (hf b hb).2.2.2.1 with q | q
    · exact I.ok.noex b o e q
    · exact absurd (Nat.lt_of_lt_of_le (Heap.lt_size e) (Nat.le_trans I.ok.bsz q)) (Nat.lt_irrefl _)
  · have hi : ¬ i < nt := fun hi => by
      unfold compσ at e2
      rw [List.getElem?_append_left (by simpa using hi), List.getElem?_replicate] at e2
      split at e2 <;> cases e2
    have ei : i = nt + (i - nt) := by omega
    have e2' : (fi.map fun j => (σ[j]?).getD none)[i - nt]? = some (some v) := by
      unfold compσ at e2
      rw [List.getElem?_append_right (by simpa using Nat.le_of_not_lt hi)] at e2
      simpa using e2
    rw [List.getElem?_map] at e2'
    cases ej : fi[i - nt]? with
    | none => rw [ej] at e2'; cases e2'
    | some j =>
      rw [ej] at e2'
      obtain ⟨x', n1, n2, n3⟩ := cn.cap (i - nt) j ej
      rw [← ei] at n1
      have e1' : N'[i]? = some x := e1
      rw [n1] at e1'
      cases e1'
      have ev : σ[j]? = some (some v) := by
        have e2' : some ((σ[j]?).getD none) = some (some v) := e2'
        cases q : σ[j]? with
        | none => rw [q] at e2'; simp at e2'
        | some w => rw [q] at e2'; simp at e2'; rw [e2']
      have mem : (x, NameKind.free) ∈ scope.names := PySem.mem_of_lookup n3
      have vis := cn.fre _ mem rfl
      obtain ⟨m0, hn0, hl0⟩ := I.loc
      obtain ⟨u, ru, lk⟩ := hl0 j x v n2 ev (.inr vis)
      refine ⟨u, ru, ?_⟩
      rcases lk with ⟨q, _⟩ | ⟨q, c, ec, o, hoc, hod⟩
      · have q' : X.env.scope.names.lookup x = some .local := q
        rcases vis with z | z
        · have z' : X.env.scope.names.lookup x = some .cell := z
          rw [q'] at z'; cases z'
        · have z' : X.env.scope.names.lookup x = some .free := z
          rw [q'] at z'; cases z'
      · obtain ⟨c', ec'⟩ := Option.isSome_iff_exists.mp (clOf_has (cells := X.env.cells) scope.names [] mem)
        have ecc := snd x c' ec'
        rw [ec] at ecc
        cases ecc
        refine .inr ⟨?_, c, ec', o, kp c o hoc, hod⟩
        show (relabel scope X.env).names.lookup x = some .cell ∨ (relabel scope X.env).names.lookup x = some .free
        have e4 : (relabel scope X.env).names.lookup x = (scope.names.lookup x).map fun k => if (k == NameKind.free && X.env.scope.kind == .function && X.env.kindOf x == some .cell) = true then .cell else k := lookup_relabel X.env x scope.names
        rw [e4, n3]
        simp only [Option.map_some]
        split
        · exact .inl rfl
        · exact .inr rfl
  · obtain ⟨v, o, hoc, hod⟩ := I.cell x c (snd x c e)
    exact ⟨v, o, kp c o hoc, hod⟩
  · have hp' : p ∈ X.pn ++ pins := by
      have hp'' : p ∈ ([] : List (Addr × Obj)) ++ (X.pn ++ pins) := hp
      simpa using hp''
    obtain ⟨e, n, ne, nf, d⟩ := I.pin p hp'
    exact ⟨kp _ _ e, n, lt e, offstk _ ne nf, d⟩
  · show (compσ nt fi σ).length = N'.length
    unfold compσ
    rw [cn.len, List.length_append, List.length_replicate, List.length_map]
/-- back from the block -/
theorem inv_back {pins : List (Addr × Obj)} {σ σ' : St} {H H' : Hp} {s s' : Shared} {scope : Scope} {cl : List (Str × Addr)} {N' : List Str} {fp : List Addr} {C : Addr} {P : List (Addr × Obj)} {h'' : Heap}
    (I : Inv X pins σ H s) (hf : ∀ b ∈ fp, FpOk X pins H b) (hC : s.heap.objs.size ≤ C) (J : Inv (cxC X scope cl N' C s H fp) P σ' H' s') (sb : Heap.SameBut C s'.heap h'') : Inv X pins σ H' { s' with heap := h'' } := by
  have ne : ∀ {b o}, s.heap.get? b = some o → b ≠ C := fun e => Nat.ne_of_lt (Nat.lt_of_lt_of_le (Heap.lt_size e) hC)
  have u : Un (frs X.stack) fp H H' s.heap s'.heap := J.base
  refine I.call' (s' := { s' with heap := h'' }) (ch := fp) J.os ⟨fun b o e n hb hx => ?_, fun b o e n hb hx => ?_, u.free, fun b o e hx => ?_, u.tups, u.frzs, u.tbls⟩ (fun b o e => ?_) J.bare (fun b hb => ?_) J.tk
  · exact (sb.2 b (ne e)).trans (u.keep b o e n hb hx)
  · obtain ⟨sl, q⟩ := u.slot b o e n hb hx
    exact ⟨sl, (sb.2 b (ne e)).trans q⟩
  · obtain ⟨o', q⟩ := u.there b o e hx
    exact ⟨o', (sb.2 b (ne e)).trans q⟩
  · have fr : H' C = none := J.free
    refine (J.hok b o e).stay (fun c v hc q => (sb.2 c ?_).trans q) (fun _ q => q) fun _ _ q => q
    rintro rfl
    rcases hc with z | z
    · subst z
      rw [fr] at e
      cases e
    · rw [fr] at z
      cases z
  · obtain ⟨f0, f1, f2, f3, f4, f5⟩ := hf b hb
    exact ⟨f3, f1, f4, f5⟩
theorem pe_comp {elt tg iter : Expr} {ifs : List Expr} {scope : Scope} {pos : Pos} {wi : TI} {g : TG} {tc : TT} {te : TE} {nt : Nat} {fi : List Nat} {N' : List Str} (hcalm : X.calm = true)
    (S : CScope scope) (cn : CNames X scope nt fi N') (gk : GK nt g) (hi : PI X tg iter wi)
    (hg : ∀ cl C s H ex, PG (cxC X scope cl N' C s H ex) tg g) (hc : ∀ cl C s H ex, PIf (cxC X scope cl N' C s H ex) ifs tc) (he : ∀ cl C s H ex, PE (cxC X scope cl N' C s H ex) elt te)
    (hs : ∀ x, foldedSetIterable iter X.env x = pure x := by intro _; rfl) : PE X (.ListComp elt [⟨tg, iter, ifs, 0⟩] scope pos) (tComp nt fi wi g tc te) := by
  intro pins s σ H Q I h
  have hfr : ∀ y ∈ scope.names, y.2 = .free → ∃ c, X.env.cells.lookup y.1 = some c := fun y hy e => I.ok.has y.1 (cn.fre y hy e)
  rw [eval_ListComp]
  refine wpAny_comprehension_free (use := none) rfl hs (closureFor_some hfr) S.kind S.loc (thn (hi pins s σ H _ I h) fun v s1 h1 => thn h1 fun itv s2 h2 => ?_)
  obtain ⟨it, fp, tn, J, H2, e, I2, T, st2, f2, hW⟩ := h2
  subst e
  have fD : H2 s2.heap.objs.size = none := I2.hok.fresh (Nat.le_refl _)
  obtain ⟨W, ⟨m0, w0⟩, turn⟩ := hW s2.heap.objs.size fD
  refine wpAny_newObj_type (wpAny_newFunctionEnv S.nocell (by intro y hy; simp at hy) (fun h₁ hns₁ hsb₁ => ?_) S.kind)
  have I3 : Inv X pins σ (upd H2 s2.heap.objs.size (.lst [])) { s2 with heap := s2.heap.push { cls := .type "list", dict := none, data := .seq ([] : List Value).toArray } } := I2.lnew (its := []) (t' := s2.toks) .nil (Nat.zero_le _)
  generalize hs3 : ({ s2 with heap := s2.heap.push { cls := .type "list", dict := none, data := .seq ([] : List Value).toArray } } : Shared) = s3 at I3 hns₁ hsb₁ ⊢
  have hsz : s3.heap.objs.size = s2.heap.objs.size + 1 := by rw [← hs3]; exact Heap.size_push ..
  have ob2 : ∀ b ∈ fp, ∃ o, s3.heap.get? b = some o := fun b hb => by
    obtain ⟨o, e, _⟩ := T.obj _ _ st2 b hb
    rw [← hs3]
    exact ⟨o, Heap.get?_push_of_some _ e⟩
  have f3 : ∀ b ∈ fp, FpOk X pins (upd H2 s2.heap.objs.size (.lst [])) b := fun b hb => by
    obtain ⟨o, e, _⟩ := T.obj _ _ st2 b hb
    refine ⟨?_, (f2 b hb).2⟩
    rw [upd_ne (Nat.ne_of_lt (Heap.lt_size e))]
    exact (f2 b hb).1
  have kp : ∀ b o, s3.heap.get? b = some o → h₁.get? b = some o := fun b o e => hsb₁.extBut b o (Nat.ne_of_lt (Heap.lt_size e)) (Heap.get?_push_of_some _ e)
  have st3 : tn 0 h₁ := T.keep _ _ _ st2 fun b _ o e => kp b o (by rw [← hs3]; exact Heap.get?_push_of_some _ e)
  have J4 : Inv (cxC X scope (clOf X.env.cells scope.names []) N' s3.heap.objs.size s3 (upd H2 s2.heap.objs.size (.lst [])) fp) (X.pn ++ pins) (compσ nt fi σ) (upd H2 s2.heap.objs.size (.lst [])) { s3 with heap := h₁, toks := s3.toks + ([] : List (Str × Value)).length } :=
    inv_comp I3 S cn f3 ob2 hns₁ kp I3.tk
  generalize hcl : clOf X.env.cells scope.names [] = cl at J4 ⊢
  generalize hH3 : upd H2 s2.heap.objs.size (.lst []) = H3 at J4 I3 f3 w0
  have stat : ∀ {H' : Hp}, (∀ b ∈ fp, H' b = none) → ∀ b ∈ fp, FpOk (cxC X scope cl N' s3.heap.objs.size s3 H3 fp) (X.pn ++ pins) H' b := fun {H'} hn b hb => by
    obtain ⟨g0, g1, g2, g3, g4, g5⟩ := f3 b hb
    have ok := J4.ok
    refine ⟨hn b hb, (ok.exf b hb).1, ok.exfs b hb, .inl hb, (ok.exf b hb).2, fun p hp => g5 p ?_⟩
    have hp' : p ∈ ([] : List (Addr × Obj)) ++ (X.pn ++ pins) := hp
    simpa using hp'
  have loop : ∀ s₃ : Shared, s₃ = { s3 with heap := h₁, toks := s3.toks + ([] : List (Str × Value)).length } →
      codeAny (model X.prog X.w) X.A (.compLoop (.ListComp elt [⟨tg, iter, ifs, 0⟩] scope pos) 0 (.ref it) (.ref s2.heap.objs.size) (compEnvC scope cl s3.heap.objs.size X.env))
        (compPost (model X.prog X.w) X.A X.xe none (EP X pins σ Q) (.ref s2.heap.objs.size) s3.heap.objs.size) s₃ := by
    rintro s₃ rfl
    refine compLoop_any (fun n s' => ∃ i acc H', Inv (cxC X scope cl N' s3.heap.objs.size s3 H3 fp) (X.pn ++ pins) (compσ nt fi σ) H' s' ∧ tn i s'.heap ∧ (∀ b ∈ fp, H' b = none) ∧ W i n acc H') ?_ m0
      ⟨0, [], H3, J4, st3, fun b hb => (f3 b hb).1, w0⟩
    rintro n s5 ⟨i, acc, H5, I5, st5, fr5, w5⟩
    rcases turn i n acc H5 w5 with ⟨stop, qn⟩ | ⟨go, step⟩
    · refine thn (T.done (cxC X scope cl N' s3.heap.objs.size s3 H3 fp) rfl rfl rfl hcalm i (X.pn ++ pins) s5 (compσ nt fi σ) H5 (fun _ _ => False) I5 (stat fr5) st5 stop) fun r s6 ⟨hr, I6⟩ => ?_
      subst hr
      obtain ⟨m6, hn6, _⟩ := I6.loc
      exact ⟨m6, hn6, fun h' sb => ⟨.ref s2.heap.objs.size, H5, inv_back I3 f3 (Nat.le_refl _) I6 sb, rfl, qn⟩⟩
    · refine thn (T.item (cxC X scope cl N' s3.heap.objs.size s3 H3 fp) rfl rfl rfl hcalm i (X.pn ++ pins) s5 (compσ nt fi σ) H5 (fun _ _ => False) I5 (stat fr5) st5 go) fun r s6 ⟨u, hr, h6⟩ => ?_
      subst hr
      refine thn h6 fun _ s7 ⟨x, H7, I7, r7, y7, st7, fr7⟩ => ?_
      have I7' := I7.pinned (stat fr7) (T.obj _ _ st7)
      refine thn (hg _ _ _ _ _ _ s7 (compσ nt fi σ) H7 x u _ I7' r7 (gk _ _ _ _ (step x H7 y7))) fun _ s8 ⟨σ8, H8, I8, q8, l8, d8⟩ => ?_
      refine thn (hc _ _ _ _ _ _ s8 σ8 H8 _ I8 q8) fun b s9 ⟨H9, I9, q9⟩ => ?_
      have again : ∀ {s' : Shared} {H' : Hp} {m' : Nat} {acc' : List V}, Inv (cxC X scope cl N' s3.heap.objs.size s3 H3 fp) ((X.pn ++ pins) ++ pinsAt fp s7.heap) σ8 H' s' → m' < n → W (i + 1) m' acc' H' →
          ∃ m, m < n ∧ ∃ i acc H', Inv (cxC X scope cl N' s3.heap.objs.size s3 H3 fp) (X.pn ++ pins) (compσ nt fi σ) H' s' ∧ tn i s'.heap ∧ (∀ b ∈ fp, H' b = none) ∧ W i m acc H' := fun {s' H' m' acc'} I' hm w' => by
        refine ⟨m', hm, i + 1, acc', H', I'.unpinned.weak l8.symm (compσ_weak l8 d8), T.keep _ _ _ st7 fun b hb o e => (I'.pin (b, o) (List.mem_append_right _ (List.mem_append_right _ (mem_pinsAt hb e)))).1, fun b hb => ?_, w'⟩
        obtain ⟨o, e, d⟩ := T.obj _ _ st7 b hb
        exact (I'.pin (b, o) (List.mem_append_right _ (List.mem_append_right _ (mem_pinsAt hb e)))).2.1
      cases b with
      | false =>
        rw [if_neg Bool.false_ne_true] at q9 ⊢
        obtain ⟨m', hm, w'⟩ := q9
        exact again I9 hm w'
      | true =>
        rw [if_pos rfl] at q9 ⊢
        refine thn (he _ _ _ _ _ _ s9 σ8 H9 _ I9 q9) fun uv s10 ⟨v10, H10, I10, r10, hD, hlt, m', hm, w'⟩ => ?_
        refine thn (mt_append (X := cxC X scope cl N' s3.heap.objs.size s3 H3 fp) _ s10 σ8 H10 (.ref s2.heap.objs.size) [v10] (.ref s2.heap.objs.size) [uv] (fun _ H' => H' = upd H10 s2.heap.objs.size (.lst (acc ++ [v10]))) I10 rfl (.cons r10 .nil) ⟨_, acc, v10, rfl, rfl, hD, hlt, rfl⟩) fun _ s11 ⟨_, H11, I11, _, e11⟩ => ?_
        subst e11
        exact again I11 hm w'
  exact codeAny_compStart_list (loop _ rfl) (T.self _ 0 _ _ _ st3 (loop _ rfl))
end
end L2


namespace L2
open PySem PySem.Spec PyProof.Rows
/-! ### texts by their codes -/
abbrev st (l : List Nat) : Str := ⟨l.toArray⟩
theorem st_len (l : List Nat) : (st l).length = l.length := by simp [Str.length]
theorem st_cps (l : List Nat) : (st l).cps.toList = l := rfl
theorem st_app (l m : List Nat) : st l ++ st m = st (l ++ m) := by
  show Str.append (st l) (st m) = _
  simp [Str.append]
theorem st_inj {l m : List Nat} : st l = st m ↔ l = m := by simp
theorem strsAre_of {ys : List Str} : ∀ {us : List Value}, Vals (ys.map V.str) us → StrsAre us ys := by
  induction ys with
  | nil => intro us r; cases r; exact .nil
  | cons y r ih =>
    intro us h
    cases h with
    | cons r1 r2 =>
      obtain ⟨t, rfl⟩ := r1
      exact .cons y t (ih r2)
theorem txt_join_ones (l : List Nat) : Txt.join ⟨#[]⟩ (l.map fun k => (⟨#[k]⟩ : Str)) = st l := by
  have h := join_plain_closes ⟨#[]⟩ (l.map fun k => (⟨#[k]⟩ : Str))
  rw [eq_of_beq h]
  exact join_ones l
section
variable {X : Cx}
/-- sep.join(list of texts) -/
def rJoin (K : PySem.W.Frag) : V → List V → Hp → VK → Prop := fun x vs H Q => ∃ sep l ys, x = .str sep ∧ vs = [.ref l] ∧ SqL K H l (ys.map V.str) ∧ (ys.map (·.length)).sum + ys.length * sep.length ≤ 16777216 ∧ Q (.str (Txt.join sep ys)) H
theorem mt_join : MtR X "str.join" (rJoin X.K) := by
  intro pins s σ H x vs v us Q I rx rv h
  obtain ⟨sep, l, ys, rfl, rfl, hq, hz, q⟩ := h
  obtain ⟨t, rfl⟩ := rx
  obtain ⟨u, rfl, ru⟩ := rv.one
  cases ru
  obtain ⟨its, r, pl, _⟩ := I.list hq
  exact tokQ I.tk (join_list pl.isList (strsAre_of r) hz fun t' k (htk : 0 < k) => ⟨.str _, H, I.tok _, ⟨_, rfl⟩, q⟩)
theorem sum_ones (l : List Nat) : ((l.map fun k => (⟨#[k]⟩ : Str)).map (·.length)).sum = l.length := by
  induction l with
  | nil => rfl
  | cons a r ih =>
    rw [List.map_cons, List.map_cons, List.sum_cons, ih, List.length_cons]
    show 1 + r.length = r.length + 1
    omega
/-- ''.join(list of signs) -/
def rJoin1 (K : PySem.W.Frag) : V → List V → Hp → VK → Prop := fun x vs H Q => ∃ l cs, x = .str (Str.ofString "") ∧ vs = [.ref l] ∧ SqL K H l (cs.map fun k => V.str ⟨#[k]⟩) ∧ cs.length ≤ 10000 ∧ Q (.str (st cs)) H
theorem ofString_nil : Str.ofString "" = ⟨#[]⟩ := by decide +kernel
theorem mt_join1 : MtR X "str.join" (rJoin1 X.K) := by
  intro pins s σ H x vs v us Q I rx rv h
  obtain ⟨l, cs, rfl, rfl, hq, hz, q⟩ := h
  refine mt_join pins s σ H _ _ v us Q I rx rv ⟨_, l, cs.map fun k => ⟨#[k]⟩, rfl, rfl, ?_, ?_, ?_⟩
  · rw [List.map_map]
    exact hq
  · rw [sum_ones, List.length_map, ofString_nil]
    show cs.length + cs.length * 0 ≤ 16777216
    omega
  · rw [ofString_nil, txt_join_ones]
    exact q
/-- z[lo:hi] of a text -/
def rSlS : V → Option Int → Option Int → Hp → VK → Prop := fun x lo hi H Q => ∃ z, x = .str z ∧ z.length ≤ sizeLine ∧ Q (.str (Txt.slice z lo hi)) H
theorem sl_str : SlR X rSlS := by
  intro pins s σ H x v vl vu lo hi sl Q I rx hs pl pu h
  obtain ⟨z, rfl, hz, q⟩ := h
  obtain ⟨t, rfl⟩ := rx
  have fin : ∀ t' k, 0 < k → EP X pins σ Q (.str (Txt.slice z lo hi) t') { s with toks := k } := fun t' k htk => ⟨.str _, H, I.tok _, ⟨_, rfl⟩, q⟩
  refine ⟨"str", _, F.slot_str_getitem.lookup, typeIs_str _ _ _, tokQ I.tk ?_⟩
  obtain ⟨o, e1, e2, e3⟩ := id hs
  cases pl with
  | none =>
    cases pu with
    | none => exact wpAny_getItem_str_slice (l := none) (u := none) (st := none) ⟨o, e1, e2, e3⟩ rfl (post_val_or_str ⟨Nat.le_trans (Txt.slice_le z _ _) hz, fin⟩)
    | int j tj => exact wpAny_getItem_str_slice (l := none) (u := some (j, tj)) (st := none) ⟨o, e1, e2, e3⟩ rfl (post_val_or_str ⟨Nat.le_trans (Txt.slice_le z _ _) hz, fin⟩)
  | int i ti =>
    cases pu with
    | none => exact wpAny_getItem_str_slice (l := some (i, ti)) (u := none) (st := none) ⟨o, e1, e2, e3⟩ rfl (post_val_or_str ⟨Nat.le_trans (Txt.slice_le z _ _) hz, fin⟩)
    | int j tj => exact wpAny_getItem_str_slice (l := some (i, ti)) (u := some (j, tj)) (st := none) ⟨o, e1, e2, e3⟩ rfl (post_val_or_str ⟨Nat.le_trans (Txt.slice_le z _ _) hz, fin⟩)
theorem slice_to (l : List Nat) (k : Nat) (h : k ≤ l.length) : Txt.slice (st l) none (some (k : Int)) = st (l.take k) := by
  have q := slice_closes_to (x := st l) (j := (k : Int)) ⟨by omega, by simpa using h⟩
  rw [eq_of_beq q]
  simp
theorem slice_from (l : List Nat) (k : Nat) (h : k ≤ l.length) : Txt.slice (st l) (some (k : Int)) none = st (l.drop k) := by
  have q := slice_from_eq (x := st l) (i := (k : Int)) (b := (l.length : Int)) (by omega) (by simpa [Str.length] using h) (by simp [Str.length])
  rw [q]
  simp only [st_cps, Int.toNat_natCast]
  rw [List.take_of_length_le (by rw [List.length_drop]; omega)]
/-- a text times an int -/
theorem op_mul_str : OpR X (binaryOp .Mult) (fun x y H Q => ∃ z n, x = .str z ∧ y = .int n ∧ MulOk z n ∧ Q (.str (Txt.mul z n)) H) := by
  intro pins s σ H x y v u Q I rx ry h
  obtain ⟨z, n, rfl, rfl, hok, q⟩ := h
  obtain ⟨t, rfl⟩ := rx
  obtain ⟨t', rfl⟩ := ry
  exact tokQ I.tk (SB.mul hok fun t' k (htk : 0 < k) => ⟨.str _, H, I.tok _, ⟨_, rfl⟩, q⟩)
theorem mul1 (k n : Nat) : Txt.mul ⟨#[k]⟩ (n : Int) = st (List.replicate n k) := by
  have q := mul_one_list k (n : Int)
  rw [Int.toNat_natCast] at q
  have e : ∀ x : Str, x = ⟨x.cps.toList.toArray⟩ := fun x => by simp
  rw [e (Txt.mul ⟨#[k]⟩ (n : Int)), q]
/-- isinstance(x, T) -/
theorem call_isinst : CallR X (.builtin "isinstance") (fun xs H Q => ∃ x n t b, xs = [x, .ty n] ∧ TyOf X.K H x t ∧ PySem.W.kitOne X.K t (.type n) = some b ∧ Q (.bl b) H) := by
  intro pins s σ H xs us Q I r h
  obtain ⟨x, n, t, b, rfl, ty, e, q⟩ := h
  obtain ⟨u, w', rfl, r1, r2⟩ := vals2 r
  cases r2
  exact tokQ I.tk (isinst_ok I r1 ty e fun tk (htk : 0 < tk) => ⟨.bl b, H, I.tok _, rfl, q⟩)
/-- xs == [] -/
theorem op_eq_nil (hu : X.A.units < cLine) : OpR X (compareOp .Eq) (fun x y H Q => ∃ a b xs, x = .ref a ∧ y = .ref b ∧ SqL X.K H a xs ∧ SqL X.K H b [] ∧ Q (.bl (decide (xs = []))) H) := by
  intro pins s σ H x y v u Q I rx ry h
  obtain ⟨a, b, xs, rfl, rfl, ha, hb, q⟩ := h
  cases rx
  cases ry
  obtain ⟨its, r1, p1, _⟩ := I.list ha
  obtain ⟨its2, r2, p2, _⟩ := I.list hb
  cases r2
  cases r1 with
  | nil => exact SeqAt.eq_listAt (e := fun _ => true) p1.isList p2.isList rfl hu (fun j h1 _ => absurd h1 (by simp)) ⟨.bl true, H, I, rfl, q⟩
  | cons rx rr => exact SeqAt.eq_list_lengthsAt p1.isList p2.isList (by simp) hu ⟨.bl false, H, I, rfl, by simpa using q⟩
end
end L2


namespace L2
open PySem PySem.Spec PyProof.Rows
/-! ### defs in short -/
/-- a def of the text stands behind its name -/
def Fn (K : PySem.W.Frag) (mg : Str → Option Value) (x : Str) (st : Stmt) : Prop := ∃ f fd, Fun K x x st f fd ∧ mg x = some (.ref f)
/-- it may be called, and keeps its promise -/
def Callee (P : Program) (w : World) (K : PySem.W.Frag) (mg : Str → Option Value) (base : Heap) (k : Nat) (x : Str) (ps : List Str) (sp : Sp) : Prop :=
  ∃ f fd, FnOk P w K mg base CX0 k f fd ps sp ∧ Binds K fd ps [] ∧ PySem.W.keepIn K (.ref f) = true ∧ mg x = some (.ref f)
theorem Callee.mono {P : Program} {w : World} {K : PySem.W.Frag} {mg : Str → Option Value} {base : Heap} {j k : Nat} {x : Str} {ps : List Str} {sp : Sp} (C : Callee P w K mg base j x ps sp) (h : j ≤ k) : Callee P w K mg base k x ps sp := by
  obtain ⟨f, fd, F, r⟩ := C
  exact ⟨f, fd, F.mono h, r⟩
theorem Fn.cal {P : Program} {w : World} {K : PySem.W.Frag} {mg : Str → Option Value} {base : Heap} {x : Str} {st : Stmt} {N ps : List Str} {k : Nat} {sp : Sp} (F : Fn K mg x st) (S : FnScope N ps (defScope st)) (len : ∀ vs H Q E, sp vs H Q E → vs.length = ps.length)
    (hb : ∀ (kV doc pm : Value) (an : Option Addr) (cdv ct : Value) (us : List Value), us.length = ps.length → bindArgs (PySem.W.fnOf x x (defArgs st) (defBody st) (defScope st) .none kV doc pm an cdv ct) ⟨us, []⟩ = pure (ps.zip us))
    (hbody : ∀ (f : Addr) (cdv : Value) (A : Around) (outer : List Env) (s : Shared) (H : Hp) (vs : List V) (Q : VK) (E : XK), Room k (A.deeper (envOfC x (defScope st) s.heap.objs.size f cdv)) → sp vs H Q E →
      ∃ t, PSs (cxOf CX0 P w K mg base N x (defScope st) f cdv A outer s H E).nox (defBody st) t ∧ t { nx := fun _ H' => Q .non H', rt := Q } (start N vs) H) : Callee P w K mg base (k + 1) x ps sp := by
  obtain ⟨f, fd, F, m⟩ := F
  exact ⟨f, fd, F.ok S len (hbody f), F.binds hb, F.kp, m⟩
section
variable {X : Cx} {k : Nat} {x : Str} {ps : List Str} {sp : Sp} {p pos : Pos} {e : Expr} {es : List Expr} {t : TA}
theorem pe_fn (C : Callee X.prog X.w X.K X.mg X.base k x ps sp) (hr : Room k X.A) (hg : Gl X x) (ha : PA X (e :: es) t)
    (he : starEach (e :: es) X.env = (false, eval e X.env) :: starEach es X.env := by rfl) (hpl : (backTo pos (starEach es X.env)).any (·.1) = false := by rfl) (hd : (x == ("__debug__" : Str)) = false := by decide) : PE X (.Call (.Name x p) (e :: es) [] pos) (tCall sp [] E0 t) := by
  obtain ⟨f, fd, F, b, kp, m⟩ := C
  exact pe_call F hr hg m kp b .nil pass0 ha (hdb := hd) (he := he) (hpl := hpl)
end
/-! ### ways that meet again -/
def tJoin (t u : TS) : TS := fun D σ H => ∃ J : St → Hp → Prop, t { D with nx := J } σ H ∧ ∀ σ' H', J σ' H' → u D σ' H'
theorem pss_join {X : Cx} {st : Stmt} {rest : List Stmt} {t u : TS} (h1 : PS X st t) (h2 : PSs X rest u) : PSs X (st :: rest) (tJoin t u) := by
  intro pins s σ H D I h
  obtain ⟨J, hj, hr⟩ := h
  refine wpAny_execs_cons (thn (h1 pins s σ H { D with nx := J } I hj) fun f s1 q => ?_)
  cases f with
  | next =>
    obtain ⟨σ', H', I', q⟩ := q
    exact h2 pins s1 σ' H' D I' (hr σ' H' q)
  | ret v => exact q
  | brk => exact q
  | cont => exact q
/-! ### equal values -/
theorem same_new {H : Hp} {p : Addr} (h : H p = none) (o : HO) : Same H (upd H p o) := fun b u q => by rw [upd_ne (ne_of_none q h)]; exact q
theorem same_upd {H H' : Hp} {p : Addr} {o : HO} (s : Same H H') (h : H p = none) : Same H (upd H' p o) := fun b u q => by rw [upd_ne (ne_of_none q h)]; exact s b u q
theorem sizeBig {n : Nat} (h : n ≤ 100000) : n < sizeLine := Nat.lt_of_le_of_lt h (by decide)
/-- '0', '1', '-' by their codes -/
def RowL (l : List Nat) : Prop := ∀ c ∈ l, c = 48 ∨ c = 49 ∨ c = 45
theorem RowL.nil : RowL [] := fun _ h => nomatch h
theorem RowL.snoc {l : List Nat} {c : Nat} (h : RowL l) (hc : c = 48 ∨ c = 49 ∨ c = 45) : RowL (l ++ [c]) := fun d hd => by
  rcases List.mem_append.mp hd with q | q
  · exact h d q
  · rw [List.mem_singleton.mp q]
    exact hc
end L2


namespace L2
open PySem PySem.Spec PyProof.Rows
/-! ### readings that compute -/
section
variable {X : Cx}
theorem PE.imp {e : Expr} {t t' : TE} (h : PE X e t) (k : ∀ σ H Q, t' σ H Q → t σ H Q) : PE X e t' := fun pins s σ H Q I q => h pins s σ H Q I (k σ H Q q)
theorem PT.imp {e : Expr} {t t' : TT} (h : PT X e t) (k : ∀ σ H Q, t' σ H Q → t σ H Q) : PT X e t' := fun pins s σ H Q I q => h pins s σ H Q I (k σ H Q q)
theorem PI.imp {tg e : Expr} {t t' : TI} (h : PI X tg e t) (k : ∀ σ H Q, t' σ H Q → t σ H Q) : PI X tg e t' := fun pins s σ H Q I q => h pins s σ H Q I (k σ H Q q)
theorem PG.imp {e : Expr} {t t' : TG} (h : PG X e t) (k : ∀ v σ H Q, t' v σ H Q → t v σ H Q) : PG X e t' := fun pins s σ H v u Q I r q => h pins s σ H v u Q I r (k v σ H Q q)
theorem OpR.imp {f : Value → Value → Sem Value} {r r' : R2} (h : OpR X f r) (k : ∀ x y H Q, r' x y H Q → r x y H Q) : OpR X f r' := fun pins s σ H x y v u Q I rx ry q => h pins s σ H x y v u Q I rx ry (k x y H Q q)
theorem CallR.imp {f : Value} {r r' : List V → Hp → VK → Prop} (h : CallR X f r) (k : ∀ xs H Q, r' xs H Q → r xs H Q) : CallR X f r' := fun pins s σ H xs us Q I r q => h pins s σ H xs us Q I r (k xs H Q q)
theorem IxR.imp {r r' : R2} (h : IxR X r) (k : ∀ x y H Q, r' x y H Q → r x y H Q) : IxR X r' := fun a b pins s σ H x y v u Q I rx ry q => h a b pins s σ H x y v u Q I rx ry (k x y H Q q)
theorem MtR.imp {id : String} {r r' : V → List V → Hp → VK → Prop} (h : MtR X id r) (k : ∀ x xs H Q, r' x xs H Q → r x xs H Q) : MtR X id r' := fun pins s σ H x xs v us Q I rx r q => h pins s σ H x xs v us Q I rx r (k x xs H Q q)
theorem SlR.imp {r r' : V → Option Int → Option Int → Hp → VK → Prop} (h : SlR X r) (k : ∀ x a b H Q, r' x a b H Q → r x a b H Q) : SlR X r' := fun pins s σ H x v vl vu lo hi sl Q I rx hs pl pu q => h pins s σ H x v vl vu lo hi sl Q I rx hs pl pu (k x lo hi H Q q)
def cVar (i : Nat) : TE := fun σ H Q => match σ[i]? with | some (some v) => Q v H | _ => False
theorem qv (i : Nat) {x : Str} {pos : Pos} (hN : X.N[i]? = some x := by rfl) (hv : Vis X.env.scope x := by first | exact Or.inl rfl | exact Or.inr (Or.inl rfl) | exact Or.inr (Or.inr rfl)) (hd : (x == ("__debug__" : Str)) = false := by decide)
    (hcd : (x == ("__classdict__" : Str)) = false := by decide) : PE X (.Name x pos) (cVar i) := (pe_var hN hv hd hcd).imp fun σ H Q q => by
  unfold cVar at q
  split at q
  · exact ⟨_, by assumption, q⟩
  · exact q.elim
/-- a written text, by its codes -/
theorem qs (l : List Nat) {x : Str} {j pos} (h : x = st l := by decide +kernel) : PE X (.Constant (.str x) j pos) (tC (.str (st l))) := by
  rw [← h]
  exact pe_str
theorem st_eta (a : Str) : st a.cps.toList = a := by simp
def kAdd : R2 := fun x y H Q => match x, y with
  | .int i, .int j => Q (.int (i + j)) H
  | .str a, .str b => a.cps.toList.length + b.cps.toList.length ≤ 100000 ∧ Q (.str (st (a.cps.toList ++ b.cps.toList))) H
  | .ref l, .ref b => ∃ xs zs, H l = some (.lst xs) ∧ H b = some (.lst zs) ∧ xs.length + zs.length ≤ sizeLine ∧ ∀ p, H p = none → Q (.ref p) (upd H p (.lst (xs ++ zs)))
  | _, _ => False
theorem op_addK : OpR X (binaryOp .Add) kAdd := by
  intro pins s σ H x y v u Q I rx ry q
  unfold kAdd at q
  split at q
  · exact op_add pins s σ H _ _ v u Q I rx ry ⟨_, _, rfl, rfl, q⟩
  · obtain ⟨h, q⟩ := q
    refine op_add_str pins s σ H _ _ v u Q I rx ry ⟨_, _, rfl, rfl, ?_, ?_⟩
    · have : (100000 : Nat) ≤ sizeLine := by decide
      simp only [Array.length_toList] at h
      simp only [Str.length]
      omega
    · rename_i a b
      have e : a ++ b = st (a.cps.toList ++ b.cps.toList) := by
        rw [← st_app, st_eta, st_eta]
      rw [e]
      exact q
  · obtain ⟨xs, zs, h1, h2, h3, q⟩ := q
    exact op_cat pins s σ H _ _ v u Q I rx ry ⟨_, _, _, _, rfl, rfl, h1, h2, h3, q⟩
  · exact q.elim
def kI (C : Int → Int → Prop) (g : Int → Int → V) : R2 := fun x y H Q => match x, y with
  | .int i, .int j => C i j ∧ Q (g i j) H
  | _, _ => False
def kI0 (g : Int → Int → V) : R2 := fun x y H Q => match x, y with
  | .int i, .int j => Q (g i j) H
  | _, _ => False
theorem kI_imp {C : Int → Int → Prop} {g : Int → Int → V} : ∀ x y H Q, kI C g x y H Q → rI C g x y H Q := fun x y H Q q => by
  unfold kI at q
  split at q
  · exact ⟨_, _, rfl, rfl, q.1, q.2⟩
  · exact q.elim
theorem kI0_imp {g : Int → Int → V} : ∀ x y H Q, kI0 g x y H Q → rI0 g x y H Q := fun x y H Q q => by
  unfold kI0 at q
  split at q
  · exact ⟨_, _, rfl, rfl, q⟩
  · exact q.elim
abbrev kSub : R2 := kI0 fun i j => .int (i - j)
abbrev kMod : R2 := kI (fun _ j => 0 < j) fun i j => .int (i % j)
abbrev kFdiv : R2 := kI CDiv fun i j => .int (i / j)
theorem op_subK : OpR X (binaryOp .Sub) kSub := op_sub.imp kI0_imp
theorem op_modK : OpR X (binaryOp .Mod) kMod := op_mod.imp kI_imp
theorem op_fdivK : OpR X (binaryOp .FloorDiv) kFdiv := op_fdiv.imp kI_imp
def kMul : R2 := fun x y H Q => match x, y with
  | .int i, .int j => CMul i j ∧ Q (.int (i * j)) H
  | .str a, .int n => ∃ c, a.cps.toList = [c] ∧ 0 ≤ n ∧ n ≤ 10000 ∧ Q (.str (st (List.replicate n.toNat c))) H
  | .ref l, .int k => ∃ xs, H l = some (.lst xs) ∧ 0 ≤ k ∧ k ≤ 10000 ∧ xs.length = 1 ∧ ∀ p, H p = none → Q (.ref p) (upd H p (.lst (List.replicate k.toNat xs).flatten))
  | _, _ => False
theorem mulOk_one (k n : Nat) (hn : n ≤ 10000) : MulOk ⟨#[k]⟩ (n : Int) := by
  have hl : (⟨#[k]⟩ : Str).length = 1 := rfl
  refine ⟨?_, fun _ _ => ?_, fun _ _ => ?_⟩
  · rw [decide_eq_false (by omega), decide_eq_false (by omega)]
    rfl
  · rw [hl]
    intro z
    have : (2 ^ 63 - 1) / (n : Int) < 1 := by omega
    have h2 : (n : Int) ≤ 10000 := by omega
    have h1 : ¬ (n : Int) < 1 := by assumption
    have h3 : 1 ≤ (2 ^ 63 - 1) / (n : Int) := by
      rw [Int.le_ediv_iff_mul_le (by omega)]
      omega
    omega
  · rw [hl]
    unfold PySem.Builtin.Str.tooLong sizeLine
    exact decide_eq_false (by rw [Int.toNat_natCast]; have : (2 : Nat) ^ 24 = 16777216 := by decide
                              omega)
theorem op_mulK : OpR X (binaryOp .Mult) kMul := by
  intro pins s σ H x y v u Q I rx ry q
  unfold kMul at q
  split at q
  · exact op_mul pins s σ H _ _ v u Q I rx ry ⟨_, _, rfl, rfl, q.1, q.2⟩
  · obtain ⟨c, e, h0, h1, q⟩ := q
    rename_i a n
    obtain ⟨k, rfl⟩ : ∃ k : Nat, n = k := ⟨n.toNat, by omega⟩
    have ea : a = ⟨#[c]⟩ := by rw [← st_eta a, e]
    subst ea
    refine op_mul_str pins s σ H _ _ v u Q I rx ry ⟨_, _, rfl, rfl, mulOk_one c k (by omega), ?_⟩
    rw [mul1]
    exact q
  · obtain ⟨xs, h1, h2, h3, h4, q⟩ := q
    refine op_rep pins s σ H _ _ v u Q I rx ry ⟨_, _, _, rfl, rfl, h1, by omega, by omega, ?_, q⟩
    have : (10000 : Nat) ≤ sizeLine := by decide
    rw [h4]
    omega
  · exact q.elim
/-! comparisons -/
def kEq (neg : Bool) : R2 := fun x y H Q => match x, y with
  | .int i, .int j => Q (.bl (neg ^^ decide (i = j))) H
  | .str a, .str b => Q (.bl (neg ^^ decide (a.cps.toList = b.cps.toList))) H
  | .bl a, .bl b => Q (.bl (neg ^^ decide (a = b))) H
  | .non, .non => Q (.bl (neg ^^ true)) H
  | .non, .int _ => Q (.bl (neg ^^ false)) H
  | .int _, .non => Q (.bl (neg ^^ false)) H
  | .non, .str _ => Q (.bl (neg ^^ false)) H
  | .str _, .non => Q (.bl (neg ^^ false)) H
  | _, _ => False
theorem V_str_eq (a b : Str) : decide (V.str a = V.str b) = decide (a.cps.toList = b.cps.toList) := by
  by_cases h : a.cps.toList = b.cps.toList
  · have : a = b := by rw [← st_eta a, h, st_eta]
    subst this
    simp
  · rw [decide_eq_false h, decide_eq_false (fun z => h (by cases z; rfl))]
theorem kEq_eq : ∀ x y H Q, kEq false x y H Q → rEq x y H Q := fun x y H Q q => by
  unfold kEq at q
  split at q <;> first
    | exact q.elim
    | (refine ⟨rfl, ?_⟩
       first
       | (rw [V_str_eq]; simpa using q)
       | simpa using q)
theorem kEq_ne : ∀ x y H Q, kEq true x y H Q → rNe x y H Q := fun x y H Q q => by
  unfold kEq at q
  split at q <;> first
    | exact q.elim
    | (refine ⟨rfl, ?_⟩
       first
       | (rw [V_str_eq]; simpa using q)
       | simpa using q)
theorem op_eqK : OpR X (compareOp .Eq) (kEq false) := op_eq.imp kEq_eq
theorem op_neK : OpR X (compareOp .NotEq) (kEq true) := op_ne.imp kEq_ne
abbrev kLt : R2 := kI0 fun i j => .bl (decide (i < j))
abbrev kLe : R2 := kI0 fun i j => .bl (decide (i ≤ j))
abbrev kGt : R2 := kI0 fun i j => .bl (decide (j < i))
theorem op_ltK : OpR X (compareOp .Lt) kLt := op_lt.imp kI0_imp
theorem op_leK : OpR X (compareOp .LtE) kLe := op_le.imp kI0_imp
theorem op_gtK : OpR X (compareOp .Gt) kGt := op_gt.imp kI0_imp
/-- is None, is True, .. -/
def kIs (neg : Bool) : R2 := fun x y H Q => match y with
  | .non => Q (.bl (neg ^^ decide (x = .non))) H
  | _ => False
/-- one sign in a text; a flat thing in a list or tuple of flat ones -/
def kIn (K : PySem.W.Frag) (neg : Bool) : R2 := fun x y H Q => match x, y with
  | .str a, .str b => ∃ c, a.cps.toList = [c] ∧ Q (.bl (neg ^^ decide (c ∈ b.cps.toList))) H
  | x, .ref p => ∃ xs, (SqL K H p xs ∨ SqT K H p xs) ∧ flatV x = true ∧ xs.all flatV = true ∧ Q (.bl (neg ^^ inV x xs)) H
  | _, _ => False
theorem op_inK : OpR X (compareOp .In) (kIn X.K false) := by
  intro pins s σ H x y v u Q I rx ry q
  unfold kIn at q
  split at q
  · obtain ⟨c, e, q⟩ := q
    rename_i a b
    have ea : a = ⟨#[c]⟩ := by rw [← st_eta a, e]
    subst ea
    refine op_in_str pins s σ H _ _ v u Q I rx ry ⟨_, _, rfl, rfl, ?_⟩
    rw [StrLaws.found_one]
    simpa using q
  · obtain ⟨xs, h1, h2, h3, q⟩ := q
    exact op_in_seq pins s σ H _ _ v u Q I rx ry ⟨_, _, rfl, h1, h2, h3, by simpa using q⟩
  · exact q.elim
theorem op_notinK : OpR X (compareOp .NotIn) (kIn X.K true) := by
  intro pins s σ H x y v u Q I rx ry q
  unfold kIn at q
  split at q
  · obtain ⟨c, e, q⟩ := q
    rename_i a b
    have ea : a = ⟨#[c]⟩ := by rw [← st_eta a, e]
    subst ea
    refine op_notin_str pins s σ H _ _ v u Q I rx ry ⟨_, _, rfl, rfl, ?_⟩
    rw [StrLaws.found_one]
    simpa using q
  · obtain ⟨xs, h1, h2, h3, q⟩ := q
    exact op_notIn_seq pins s σ H _ _ v u Q I rx ry ⟨_, _, rfl, h1, h2, h3, by simpa using q⟩
  · exact q.elim
/-- an item of a text, a list, a tuple -/
def kIx (K : PySem.W.Frag) : R2 := fun x y H Q => match x, y with
  | .str z, .int i => z.cps.toList.length ≤ 100000 ∧ ∃ c, atI z.cps.toList i = some c ∧ Q (.str (st [c])) H
  | .ref p, .int i => ∃ xs v, (SqL K H p xs ∨ SqT K H p xs) ∧ atI xs i = some v ∧ Q v H
  | _, _ => False
theorem big5 : (100000 : Nat) ≤ sizeLine := by decide
theorem strlen (z : Str) : z.length = z.cps.toList.length := by simp [Str.length]
theorem ix_K : IxR X (kIx X.K) := ix_seq.imp fun x y H Q q => by
  unfold kIx at q
  split at q
  · obtain ⟨h, c, e, q⟩ := q
    exact .inr (.inr ⟨_, _, c, rfl, rfl, by rw [strlen]; exact Nat.le_trans h big5, e, q⟩)
  · obtain ⟨xs, v, h | h, e, q⟩ := q
    · exact .inl ⟨_, _, _, _, rfl, rfl, h, e, q⟩
    · exact .inr (.inl ⟨_, _, _, _, rfl, rfl, h, e, q⟩)
  · exact q.elim
/-- len -/
def kLen (K : PySem.W.Frag) : List V → Hp → VK → Prop := fun xs H Q => match xs with
  | [.str z] => z.cps.toList.length ≤ 100000 ∧ Q (.int z.cps.toList.length) H
  | [.ref p] => ∃ ys, (SqL K H p ys ∨ SqT K H p ys) ∧ Q (.int ys.length) H
  | _ => False
theorem call_lenK : CallR X (.builtin "len") (kLen X.K) := by
  intro pins s σ H xs us Q I r q
  unfold kLen at q
  split at q
  · obtain ⟨h, q⟩ := q
    refine call_len_str pins s σ H _ us Q I r ⟨_, rfl, by rw [strlen]; exact Nat.le_trans h big5, ?_⟩
    rw [strlen]
    exact q
  · obtain ⟨ys, h, q⟩ := q
    exact call_len_seq pins s σ H _ us Q I r ⟨_, _, rfl, h, q⟩
  · exact q.elim
/-! weaker ends -/
def up (t : TE) : TE := fun σ H Q => ∃ Q0 : VK, t σ H Q0 ∧ ∀ v H', Q0 v H' → Q v H'
def up2 (r : R2) : R2 := fun x y H Q => ∃ Q0 : VK, r x y H Q0 ∧ ∀ v H', Q0 v H' → Q v H'
theorem EP.imp {pins : List (Addr × Obj)} {σ : St} {Q Q' : VK} {u : Value} {s : Shared} (h : EP X pins σ Q u s) (k : ∀ v H', Q v H' → Q' v H') : EP X pins σ Q' u s := by
  obtain ⟨v, H', I, r, q⟩ := h
  exact ⟨v, H', I, r, k v H' q⟩
theorem PE.mono {e : Expr} {t : TE} (h : PE X e t) : PE X e (up t) := fun pins s σ H Q I ⟨Q0, q, k⟩ => thn (h pins s σ H Q0 I q) fun u s' z => z.imp k
theorem OpR.mono {f : Value → Value → Sem Value} {r : R2} (h : OpR X f r) : OpR X f (up2 r) := fun pins s σ H x y v u Q I rx ry ⟨Q0, q, k⟩ => thn (h pins s σ H x y v u Q0 I rx ry q) fun u s' z => z.imp k
/-! tests -/
/-- a bool is wanted -/
def blK (Q : Bool → Hp → Prop) : VK := fun x H' => match x with | .bl k => Q k H' | _ => False
theorem blK_ex {Q : Bool → Hp → Prop} {x : V} {H' : Hp} (h : blK Q x H') : ∃ k, x = .bl k ∧ Q k H' := by
  unfold blK at h
  split at h
  · exact ⟨_, rfl, h⟩
  · exact h.elim
def cTest (t : TE) : TT := fun σ H Q => t σ H (blK Q)
theorem qt_val {e : Expr} {t : TE} (h : PE X e t) (he : ∀ whole, isTrue e X.env whole = (do let v ← whole; standAt e.pos; holding [v] (truthy v)) := by intro _; rfl) : PT X e (cTest t) :=
  (pt_val h.mono he).imp fun σ H Q q => ⟨_, q, fun v H' z => blK_ex z⟩
variable {a b c : Expr} {ta tb tc : TE} {pos : Pos} {rest : List Expr}
theorem qt_cmp {op : CmpOp} {r : R2} (ho : OpR X (compareOp op) r) (ha : PE X a ta) (hb : PE X b tb) (hm : behindInMarks op b = false := by first | exact nomark _ | rfl) : PT X (.Compare a [op] [b] pos) (cTest (tOp r ta tb)) :=
  (pt_cmpR ho.mono ha.mono hb.mono hm).imp fun σ H Q q => ⟨_, q, fun x H1 z => ⟨_, z, fun y H2 z2 => ⟨_, z2, fun v H' z3 => blK_ex z3⟩⟩⟩
theorem qe_cmp {op : CmpOp} {r : R2} (ho : OpR X (compareOp op) r) (ha : PE X a ta) (hb : PE X b tb) (hm : behindInMarks op b = false := by first | exact nomark _ | rfl) : PE X (.Compare a [op] [b] pos) (tOp r ta tb) := pe_cmpR ho ha hb hm
def cAndV (ta tb : TE) : TE := fun σ H Q => ta σ H (blK fun c H1 => if c = true then tb σ H1 Q else Q (.bl false) H1)
def cOrV (ta tb : TE) : TE := fun σ H Q => ta σ H (blK fun c H1 => if c = true then Q (.bl true) H1 else tb σ H1 Q)
def cNotV (ta : TE) : TE := fun σ H Q => ta σ H (blK fun c H1 => Q (.bl (!c)) H1)
/-! ### methods -/
variable {o e : Expr} {to te : TE} {apos cpos : Pos}
/-- xs.append(e) -/
def cApp (to te : TE) : TE := fun σ H Q => to σ H fun x H1 => match x with
  | .ref l => (∃ xs, H1 l = some (.lst xs)) ∧ te σ H1 fun y H2 => ∃ xs, H2 l = some (.lst xs) ∧ xs.length < sizeLine ∧ Q .non (upd H2 l (.lst (xs ++ [y])))
  | _ => False
theorem qe_append (ho : PE X o to) (he : PE X e te) (hbase : attributeBase o "append" X.env (eval o X.env) = eval o X.env := by rfl)
    (hfew : ((backTo cpos (starEach [e] X.env)).all (fun x => !x.1) && (backToKw cpos (keywordEach [] X.env)).all (fun x => x.1.isSome)
      && decide ([e].length + ([] : List Keyword).length + (if ([] : List Keyword).isEmpty then 0 else 1) < 30)) = true := by rfl)
    (hline : (apos.endLine == cpos.line) = true := by rfl) (hs : starEach [e] X.env = (false, eval e X.env) :: starEach [] X.env := by rfl) (hplain : (backTo cpos (starEach [] X.env)).any (·.1) = false := by rfl) :
    PE X (.Call (.Attribute o "append" apos) [e] [] cpos) (cApp to te) :=
  (pe_bm PySem.F.plainAttrs_list PySem.F.slot_list_append PySem.F.type_list_append mt_append ho.mono (pa_cons he.mono pa_nil hs) hbase hfew hline hs hplain).imp fun σ H Q q => ⟨_, q, fun x H1 z => by
    split at z
    · rename_i l
      obtain ⟨⟨xs, h⟩, z⟩ := z
      refine ⟨.inl ⟨rfl, _, SqL.of h⟩, _, z, fun y H2 z2 => ?_⟩
      obtain ⟨xs2, h2, h3, z3⟩ := z2
      exact ⟨l, xs2, y, rfl, rfl, h2, h3, z3⟩
    · exact z.elim⟩
/-- ''.join(list of signs) -/
def cJoin1 (K : PySem.W.Frag) (te : TE) : TE := fun σ H Q => te σ H fun x H1 => match x with
  | .ref l => ∃ cs : List Nat, SqL K H1 l (cs.map fun k => V.str (st [k])) ∧ cs.length ≤ 10000 ∧ Q (.str (st cs)) H1
  | _ => False
theorem qe_join1 {j : Nat} {p1 : Pos} (he : PE X e te) (hfew : ((backTo cpos (starEach [e] X.env)).all (fun x => !x.1) && (backToKw cpos (keywordEach [] X.env)).all (fun x => x.1.isSome)
      && decide ([e].length + ([] : List Keyword).length + (if ([] : List Keyword).isEmpty then 0 else 1) < 30)) = true := by rfl)
    (hline : (apos.endLine == cpos.line) = true := by rfl) (hs : starEach [e] X.env = (false, eval e X.env) :: starEach [] X.env := by rfl) (hplain : (backTo cpos (starEach [] X.env)).any (·.1) = false := by rfl)
    (hbase : attributeBase (.Constant (.str (Str.ofString "")) j p1) "join" X.env (eval (.Constant (.str (Str.ofString "")) j p1) X.env) = eval (.Constant (.str (Str.ofString "")) j p1) X.env := by rfl) :
    PE X (.Call (.Attribute (.Constant (.str (Str.ofString "")) j p1) "join" apos) [e] [] cpos) (cJoin1 X.K te) :=
  (pe_bm PySem.F.plainAttrs_str PySem.F.slot_str_join PySem.F.type_str_join mt_join1 pe_str (pa_cons he.mono pa_nil hs) hbase hfew hline hs hplain).imp fun σ H Q q => ⟨rfl, _, q, fun x H1 z => by
    split at z
    · obtain ⟨cs, h, h2, z⟩ := z
      exact ⟨_, cs, rfl, rfl, h, h2, z⟩
    · exact z.elim⟩
end
end L2


namespace L2
open PySem PySem.Spec PyProof.Rows
section
variable {X : Cx} {tg a b e : Expr} {te ta tb : TE} {pos p : Pos}
/-! ### what a loop walks -/
/-- a text, a list or a tuple -/
def cIter (K : PySem.W.Frag) (te : TE) : TI := fun σ H R => te σ H fun x H1 => match x with
  | .str z => R (Its z) H1
  | .ref a => ((∃ xs, SqL K H1 a xs) ∧ R (Itl K a) H1) ∨ ((∃ xs, SqT K H1 a xs) ∧ R (Itt K a) H1)
  | _ => False
theorem qi_iter (he : PE X e te) : PI X tg e (cIter X.K te) := by
  intro pins s σ H R I h
  refine thn (he pins s σ H _ I h) fun v s1 ⟨y, H1, I1, r1, q1⟩ => ?_
  dsimp only at q1
  split at q1
  · rename_i x
    obtain ⟨t, rfl⟩ := r1
    refine wpAny_pyIter_strU ?_
    refine ⟨s1.heap.objs.size, [s1.heap.objs.size], _, Its x, H1, rfl, I1.kept (t' := s1.toks) fun b o e => Heap.get?_push_of_some _ e, turn_str x t _, ⟨_, Heap.get?_push_size _ rfl, rfl, rfl⟩, fun b hb => ?_, q1⟩
    have e : b = s1.heap.objs.size := by simpa using hb
    subst e
    exact I1.fpOk (Nat.le_refl _) (I1.hok.fresh (Nat.le_refl _))
  · rename_i l
    cases r1
    rcases q1 with ⟨⟨xs, hq⟩, q⟩ | ⟨⟨xs, hq⟩, q⟩
    · obtain ⟨its, rv, p, hz⟩ := I1.list hq
      refine wpAny_pyIter_list p.isList ?_
      refine ⟨s1.heap.objs.size, [s1.heap.objs.size], _, _, H1, rfl, I1.kept (t' := s1.toks) fun b o e => Heap.get?_push_of_some _ e, turn_list l _, ⟨_, Heap.get?_push_size _ rfl, rfl, rfl⟩, fun b hb => ?_, q⟩
      have e : b = s1.heap.objs.size := by simpa using hb
      subst e
      exact I1.fpOk (Nat.le_refl _) (I1.hok.fresh (Nat.le_refl _))
    · obtain ⟨its, rv, p, hz⟩ := I1.tuple hq
      refine wpAny_pyIter_tuple (show s1.heap.IsTuple l its.toArray from p) ?_
      refine ⟨s1.heap.objs.size, [s1.heap.objs.size], _, _, H1, rfl, I1.kept (t' := s1.toks) fun b o e => Heap.get?_push_of_some _ e, turn_tuple l _, ⟨_, Heap.get?_push_size _ rfl, rfl, rfl⟩, fun b hb => ?_, q⟩
      have e : b = s1.heap.objs.size := by simpa using hb
      subst e
      exact I1.fpOk (Nat.le_refl _) (I1.hok.fresh (Nat.le_refl _))
  · exact q1.elim
def cRng1 (te : TE) : TI := fun σ H R => te σ H fun x H1 => match x with
  | .int j => -1000000 ≤ j ∧ j ≤ 1000000 ∧ R (Itr 0 j.toNat) H1
  | _ => False
theorem qi_range1 (hg : Gl X "range") (hm : X.mg "range" = none) (ha : PE X a ta) (hs : starEach [a] X.env = [(false, eval a X.env)] := by rfl) : PI X tg (.Call (.Name "range" p) [a] [] pos) (cRng1 ta) :=
  (pi_range1 hg hm (pa_cons ha.mono pa_nil hs) hs).imp fun σ H R q => ⟨_, q, fun x H1 z => by
    split at z
    · exact ⟨_, rfl, by omega, by omega, z.2.2⟩
    · exact z.elim⟩
def cRng2 (ta tb : TE) : TI := fun σ H R => ta σ H fun x H1 => tb σ H1 fun y H2 => match x, y with
  | .int i, .int j => (-1000000 ≤ i ∧ i ≤ 1000000 ∧ -1000000 ≤ j ∧ j ≤ 1000000) ∧ R (Itr i (j - i).toNat) H2
  | _, _ => False
def srcK (K : PySem.W.Frag) (H : Hp) (v : V) (R : Src → Prop) : Prop := match v with
  | .str x => R (.str x)
  | .ref a => (∃ xs, SqL K H a xs) ∧ R (.lst a)
  | _ => False
def cZip (K : PySem.W.Frag) (ta tb : TE) : TI := fun σ H R => ta σ H fun x H1 => tb σ H1 fun y H2 => srcK K H2 x fun S1 => srcK K H2 y fun S2 => R (Itz K S1 S2) H2
end
/-! ### loops -/
def loopW (J : It) (g : TG) (tb : TS) (D : Ends) (σ : St) (H : Hp) : Prop := ∃ W : Nat → Nat → St → Hp → Prop, (∃ m, W 0 m σ H) ∧ ∀ i m σ H, W i m σ H →
  (J.stop i H ∧ D.nx σ H) ∨ (J.go i H ∧ ∃ N : St → Hp → Prop, (∀ σ' H', N σ' H' → ∃ m', m' < m ∧ W (i + 1) m' σ' H') ∧ ∀ x H', J.yld i H x H' → g x σ H' fun σ2 H2 => tb { D with nx := N, ct := N, bk := D.nx } σ2 H2)
def cFor (wi : TI) (g : TG) (tb : TS) : TS := fun D σ H => wi σ H fun J H1 => loopW J g tb D σ H1
theorem qs_for {X : Cx} {tg iter : Expr} {body : List Stmt} {wi : TI} {g : TG} {tb : TS} {pos : Pos} (hp : PassesOwn (model X.prog X.w) X.A X.env X.xe) (hc : X.calm = true) (hi : PI X tg iter wi) (hg : PG X tg g) (hb : PSs X body tb)
    (hs : ∀ x, foldedSetIterable iter X.env x = pure x := by intro _; rfl) : PS X (.For tg iter body [] pos) (cFor wi g tb) := ps_for hp hc hi hg hb hs
section
variable {K : PySem.W.Frag} {g : TG} {tb : TS} {D : Ends} {σ : St} {H : Hp}
abbrev Ends.turn (D : Ends) (N : St → Hp → Prop) : Ends := { D with nx := N, ct := N, bk := D.nx }
theorem loop_str {l : List Nat} (Pv : Nat → St → Hp → Prop) (h0 : Pv 0 σ H) (hs : ∀ i c σ H, l[i]? = some c → Pv i σ H → g (.str (st [c])) σ H fun σ2 H2 => tb (D.turn (Pv (i + 1))) σ2 H2) (hd : ∀ σ H, Pv l.length σ H → D.nx σ H) :
    loopW (Its (st l)) g tb D σ H :=
  for_it (n := l.length) Pv h0 (fun i σ H hi _ => by show i < (st l).cps.size; simpa using hi) (fun σ H _ => by show (st l).cps.size ≤ l.length; simp)
    (fun i σ H x H' hi p y => by
      obtain ⟨rfl, c, hc, rfl⟩ := y
      exact hs i c σ _ (by simpa using hc) p) hd
theorem loop_list {p : Addr} {xs : List V} (Pv : Nat → St → Hp → Prop) (h0 : Pv 0 σ H) (hl : ∀ i σ H, i ≤ xs.length → Pv i σ H → SqL K H p xs)
    (hs : ∀ i x σ H, xs[i]? = some x → Pv i σ H → g x σ H fun σ2 H2 => tb (D.turn (Pv (i + 1))) σ2 H2) (hd : ∀ σ H, Pv xs.length σ H → D.nx σ H) : loopW (Itl K p) g tb D σ H := for_list Pv h0 hl hs hd
theorem loop_items {α : Type} (item : α → V) (xs : List α) {p : Addr} (Pv : Nat → St → Hp → Prop) (h0 : Pv 0 σ H) (hl : ∀ i σ H, i ≤ xs.length → Pv i σ H → SqL K H p (xs.map item))
    (hs : ∀ i x σ H, xs[i]? = some x → Pv i σ H → g (item x) σ H fun σ2 H2 => tb (D.turn (Pv (i + 1))) σ2 H2) (hd : ∀ σ H, Pv xs.length σ H → D.nx σ H) : loopW (Itl K p) g tb D σ H :=
  loop_list (xs := xs.map item) Pv h0 (fun i σ H hi => hl i σ H (by simpa using hi)) (fun i x σ H hx p => by
    rw [List.getElem?_map] at hx
    obtain ⟨y, hy, rfl⟩ := Option.map_eq_some_iff.mp hx
    exact hs i y σ H hy p) (fun σ H p => hd σ H (by simpa using p))
theorem loop_range {lo : Int} {n : Nat} (Pv : Nat → St → Hp → Prop) (h0 : Pv 0 σ H) (hs : ∀ i σ H, i < n → Pv i σ H → g (.int (lo + i)) σ H fun σ2 H2 => tb (D.turn (Pv (i + 1))) σ2 H2) (hd : ∀ σ H, Pv n σ H → D.nx σ H) :
    loopW (Itr lo n) g tb D σ H := for_range Pv h0 hs hd
/-- the values that a source of zip gives -/
def SrcVals (K : PySem.W.Frag) (H : Hp) : Src → List V → Prop
  | .str x, xs => xs = x.cps.toList.map fun c => V.str (st [c])
  | .lst a, xs => SqL K H a xs
theorem SrcVals.go {S : Src} {xs : List V} {i : Nat} (h : SrcVals K H S xs) (hi : i < xs.length) : SrcGo K H S i := by
  cases S with
  | str x =>
    have e : xs = x.cps.toList.map fun c => V.str (st [c]) := h
    subst e
    show i < x.cps.size
    simpa using hi
  | lst a => exact ⟨xs, xs[i], h, by simp [hi]⟩
theorem SrcVals.stop {S : Src} {xs : List V} {i : Nat} (h : SrcVals K H S xs) (hi : xs.length ≤ i) : SrcEnd K H S i := by
  cases S with
  | str x =>
    have e : xs = x.cps.toList.map fun c => V.str (st [c]) := h
    subst e
    show x.cps.size ≤ i
    simpa using hi
  | lst a => exact ⟨xs, h, hi⟩
theorem SrcVals.at {S : Src} {xs : List V} {i : Nat} {v : V} (h : SrcVals K H S xs) (q : SrcAt K H S i v) : xs[i]? = some v := by
  cases S with
  | str x =>
    have e : xs = x.cps.toList.map fun c => V.str (st [c]) := h
    subst e
    obtain ⟨c, hc, rfl⟩ := q
    simp [hc]
  | lst a => exact q xs h
theorem SqT.upd_same {p : Addr} {xs : List V} : SqT K (upd H p (.tup xs)) p xs := SqT.of L2.upd_same
end
/-! ### comprehensions -/
def compW (J : It) (g : TG) (tc : TT) (te : TE) (σc : St) (D : Addr) (Q : VK) (H : Hp) : Prop :=
  ∃ W : Nat → Nat → List V → Hp → Prop, (∃ m, W 0 m [] (upd H D (.lst []))) ∧ ∀ i m acc H2, W i m acc H2 →
    (J.stop i H2 ∧ Q (.ref D) H2) ∨ (J.go i H2 ∧ ∀ x H3, J.yld i H2 x H3 → g x σc H3 fun σ4 H4 => tc σ4 H4 fun b H5 => if b = true then
      te σ4 H5 fun v H6 => H6 D = some (.lst acc) ∧ acc.length < sizeLine ∧ ∃ m', m' < m ∧ W (i + 1) m' (acc ++ [v]) (upd H6 D (.lst (acc ++ [v]))) else ∃ m', m' < m ∧ W (i + 1) m' acc H5)
def cComp (nt : Nat) (fi : List Nat) (wi : TI) (g : TG) (tc : TT) (te : TE) : TE := fun σ H Q => wi σ H fun J H1 => ∀ D, H1 D = none → compW J g tc te (compσ nt fi σ) D Q H1
theorem qe_comp {X : Cx} {elt tg iter : Expr} {ifs : List Expr} {scope : Scope} {pos : Pos} {wi : TI} {g : TG} {tc : TT} {te : TE} {nt : Nat} {fi : List Nat} {N' : List Str} (hcalm : X.calm = true)
    (S : CScope scope) (cn : CNames X scope nt fi N') (gk : GK nt g) (hi : PI X tg iter wi)
    (hg : ∀ cl C s H ex, PG (cxC X scope cl N' C s H ex) tg g) (hc : ∀ cl C s H ex, PIf (cxC X scope cl N' C s H ex) ifs tc) (he : ∀ cl C s H ex, PE (cxC X scope cl N' C s H ex) elt te)
    (hs : ∀ x, foldedSetIterable iter X.env x = pure x := by intro _; rfl) : PE X (.ListComp elt [⟨tg, iter, ifs, 0⟩] scope pos) (cComp nt fi wi g tc te) := pe_comp hcalm S cn gk hi hg hc he hs
section
variable {K : PySem.W.Frag} {J : It} {g : TG} {tc : TT} {te : TE} {σc : St} {D : Addr} {Q : VK} {H : Hp}
theorem range_flat_succ {α : Type} (f : Nat → List α) (n : Nat) : (List.range (n + 1)).flatMap f = (List.range n).flatMap f ++ f n := by
  rw [List.range_succ, List.flatMap_append]
  simp
theorem range_flat_len {α : Type} (f : Nat → List α) (hf : ∀ i, (f i).length ≤ 1) (n : Nat) : ((List.range n).flatMap f).length ≤ n := by
  induction n with
  | zero => simp
  | succ n ih =>
    rw [range_flat_succ, List.length_append]
    have := hf n
    omega
theorem comp_it {n : Nat} (f : Nat → List V) (hfree : H D = none) (hn : n ≤ 100000) (hf : ∀ i, (f i).length ≤ 1) (hy : ∀ i H x H', J.yld i H x H' → Same H H')
    (hgo : ∀ i H', i < n → Same H H' → J.go i H') (hst : ∀ H', Same H H' → J.stop n H')
    (hs : ∀ i H1 x H2 (out : VK) (non : Hp → Prop), i < n → Same H H1 → J.yld i H1 x H2 → (∀ v H6, f i = [v] → Same H2 H6 → out v H6) → (∀ H5, f i = [] → Same H2 H5 → non H5) →
      g x σc H2 fun σ4 H4 => tc σ4 H4 fun b H5 => if b = true then te σ4 H5 out else non H5)
    (hq : ∀ H', Same H H' → H' D = some (.lst ((List.range n).flatMap f)) → Q (.ref D) H') : compW J g tc te σc D Q H := by
  refine ⟨fun i m acc H2 => m = n - i ∧ i ≤ n ∧ acc = (List.range i).flatMap f ∧ Same H H2 ∧ H2 D = some (.lst acc), ⟨n, by simp, Nat.zero_le _, by simp, same_new hfree _, upd_same⟩, ?_⟩
  rintro i m acc H2 ⟨rfl, hi, rfl, sm, hD⟩
  by_cases hlt : i < n
  · refine .inr ⟨hgo i H2 hlt sm, fun x H3 y => ?_⟩
    have s23 := hy i H2 x H3 y
    refine hs i H2 x H3 _ _ hlt sm y (fun v H6 e s6 => ?_) fun H5 e s5 => ?_
    · refine ⟨s6 _ _ (s23 _ _ hD), Nat.lt_of_le_of_lt (range_flat_len f hf i) (sizeBig (by omega)), n - (i + 1), by omega, rfl, hlt, ?_, ?_, upd_same⟩
      · rw [range_flat_succ, e]
      · exact same_upd (sm.trans (s23.trans s6)) hfree
    · refine ⟨n - (i + 1), by omega, rfl, hlt, ?_, sm.trans (s23.trans s5), s5 _ _ (s23 _ _ hD)⟩
      rw [range_flat_succ, e, List.append_nil]
  · have e : i = n := by omega
    subst e
    exact .inl ⟨hst H2 sm, hq H2 sm hD⟩
def atH {α β : Type} (xs : List α) (h : α → List β) (i : Nat) : List β := ((xs[i]?).map h).getD []
theorem atH_some {α β : Type} {xs : List α} {h : α → List β} {i : Nat} {x : α} (e : xs[i]? = some x) : atH xs h i = h x := by simp [atH, e]
theorem atH_len {α β : Type} {xs : List α} {h : α → List β} (hf : ∀ x, (h x).length ≤ 1) (i : Nat) : (atH xs h i).length ≤ 1 := by
  unfold atH
  cases xs[i]? with
  | none => simp
  | some x => simpa using hf x
theorem flat_at {α β : Type} (xs : List α) (h : α → List β) : (List.range xs.length).flatMap (atH xs h) = xs.flatMap h := by
  induction xs with
  | nil => rfl
  | cons a xs ih =>
    rw [List.length_cons, List.range_succ_eq_map, List.flatMap_cons, List.flatMap_map, List.flatMap_cons, ← ih]
    rfl
section
variable {α : Type} (item : α → V) (xs : List α) (h : α → List V)
theorem comp_list {p : Addr} (hfree : H D = none) (hl : SqL K H p (xs.map item)) (hn : xs.length ≤ 100000) (hf : ∀ x, (h x).length ≤ 1)
    (hs : ∀ x H1 (out : VK) (non : Hp → Prop), x ∈ xs → Same H H1 → (∀ v H6, h x = [v] → Same H1 H6 → out v H6) → (∀ H5, h x = [] → Same H1 H5 → non H5) →
      g (item x) σc H1 fun σ4 H4 => tc σ4 H4 fun b H5 => if b = true then te σ4 H5 out else non H5)
    (hq : ∀ H', Same H H' → H' D = some (.lst (xs.flatMap h)) → Q (.ref D) H') : compW (Itl K p) g tc te σc D Q H := by
  refine comp_it (n := xs.length) (atH xs h) hfree hn (atH_len hf) (fun i H x H' y => ?_) (fun i H' hi s => ?_) (fun H' s => ?_) (fun i H1 x H2 out non hi s y ho hnn => ?_) fun H' s q => ?_
  · rw [y.1]
    exact Same.refl _
  · exact ⟨_, item xs[i], s.seq hl, by simp [hi]⟩
  · exact ⟨_, s.seq hl, by simp⟩
  · obtain ⟨rfl, y⟩ := y
    have e := y _ (s.seq hl)
    rw [List.getElem?_map, List.getElem?_eq_getElem hi] at e
    have e2 : item xs[i] = x := Option.some.inj e
    subst e2
    simp only [atH_some (List.getElem?_eq_getElem hi)] at ho hnn
    exact hs xs[i] _ out non (List.getElem_mem hi) s ho hnn
  · rw [flat_at] at q
    exact hq H' s q
theorem comp_str {l : List Nat} {h : Nat → List V} (hfree : H D = none) (hn : l.length ≤ 100000) (hf : ∀ x, (h x).length ≤ 1)
    (hs : ∀ c H1 (out : VK) (non : Hp → Prop), c ∈ l → Same H H1 → (∀ v H6, h c = [v] → Same H1 H6 → out v H6) → (∀ H5, h c = [] → Same H1 H5 → non H5) →
      g (.str (st [c])) σc H1 fun σ4 H4 => tc σ4 H4 fun b H5 => if b = true then te σ4 H5 out else non H5)
    (hq : ∀ H', Same H H' → H' D = some (.lst (l.flatMap h)) → Q (.ref D) H') : compW (Its (st l)) g tc te σc D Q H := by
  refine comp_it (n := l.length) (atH l h) hfree hn (atH_len hf) (fun i H x H' y => ?_) (fun i H' hi s => ?_) (fun H' s => ?_) (fun i H1 x H2 out non hi s y ho hnn => ?_) fun H' s q => ?_
  · rw [y.1]
    exact Same.refl _
  · show i < (st l).cps.size
    simpa using hi
  · show (st l).cps.size ≤ l.length
    simp
  · obtain ⟨rfl, c, hc, rfl⟩ := y
    have e : l[i]? = some c := by simpa using hc
    simp only [atH_some e] at ho hnn
    exact hs c _ out non (List.mem_of_getElem? e) s ho hnn
  · rw [flat_at] at q
    exact hq H' s q
theorem comp_range {lo : Int} {n : Nat} {h : Nat → List V} (hfree : H D = none) (hn : n ≤ 100000) (hf : ∀ x, (h x).length ≤ 1)
    (hs : ∀ i H1 (out : VK) (non : Hp → Prop), i < n → Same H H1 → (∀ v H6, h i = [v] → Same H1 H6 → out v H6) → (∀ H5, h i = [] → Same H1 H5 → non H5) →
      g (.int (lo + i)) σc H1 fun σ4 H4 => tc σ4 H4 fun b H5 => if b = true then te σ4 H5 out else non H5)
    (hq : ∀ H', Same H H' → H' D = some (.lst ((List.range n).flatMap h)) → Q (.ref D) H') : compW (Itr lo n) g tc te σc D Q H := by
  refine comp_it (n := n) h hfree hn hf (fun i H x H' y => ?_) (fun i H' hi s => hi) (fun H' s => Nat.le_refl _) (fun i H1 x H2 out non hi s y ho hnn => ?_) hq
  · rw [y.1]
    exact Same.refl _
  · obtain ⟨rfl, rfl⟩ := y
    exact hs i _ out non hi s ho hnn
end
end
/-! ### names of a comprehension -/
def cnOk (N : List Str) (sc scope : Scope) (nt : Nat) (fi : List Nat) (N' : List Str) : Bool :=
  N'.length == nt + fi.length && ((List.range fi.length).all fun k => match fi[k]? with
    | some j => match N'[nt + k]?, N[j]? with
      | some x, some y => x == y && scope.names.lookup x == some NameKind.free
      | _, _ => false
    | none => false) && scope.names.all fun y => y.2 != NameKind.free || (sc.names.lookup y.1 == some NameKind.cell || sc.names.lookup y.1 == some NameKind.free)
theorem cnames {X : Cx} {N : List Str} {sc scope : Scope} {nt : Nat} {fi : List Nat} {N' : List Str} (hN : X.N = N) (hsc : X.env.scope = sc) (h : cnOk N sc scope nt fi N' = true) : CNames X scope nt fi N' := by
  unfold cnOk at h
  simp only [Bool.and_eq_true, List.all_eq_true, List.mem_range, beq_iff_eq] at h
  obtain ⟨⟨h1, h2⟩, h3⟩ := h
  refine ⟨h1, fun k j e => ?_, fun y hy e => ?_⟩
  · have hk : k < fi.length := (List.getElem?_eq_some_iff.mp e).1
    have q := h2 k hk
    rw [e] at q
    dsimp only at q
    split at q
    · rename_i x y e1 e2
      simp only [Bool.and_eq_true, beq_iff_eq] at q
      obtain ⟨rfl, q⟩ := q
      exact ⟨_, e1, by rw [hN]; exact e2, q⟩
    · cases q
  · have q := h3 y hy
    rw [e] at q
    rw [hsc]
    simpa using q
theorem cscope {scope : Scope} (hk : scope.kind = .function) (h : (scope.names.all fun y => y.2 != NameKind.cell && (y.2 != NameKind.local || scope.names.lookup y.1 == some NameKind.local)) = true) : CScope scope := by
  simp only [List.all_eq_true, Bool.and_eq_true] at h
  refine ⟨hk, fun y hy e => ?_, fun y hy e => ?_⟩
  · have := (h y hy).1
    rw [e] at this
    exact absurd this (by decide)
  · have := (h y hy).2
    rw [e] at this
    simpa using this
end L2


namespace L2
open PySem PySem.Spec PyProof.Rows
/-! ### names of built-ins -/
theorem bb_len : bootBuiltins "len" = some (.builtin "len") := by decide +kernel
theorem bb_sum : bootBuiltins "sum" = some (.builtin "sum") := by decide +kernel
theorem bb_isinstance : bootBuiltins "isinstance" = some (.builtin "isinstance") := by decide +kernel
theorem bb_str : bootBuiltins "str" = some (.type "str") := by decide +kernel
theorem bb_list : bootBuiltins "list" = some (.type "list") := by decide +kernel
theorem bb_tuple : bootBuiltins "tuple" = some (.type "tuple") := by decide +kernel
inductive Ty where
  | bool | int | str | list | tuple
def Ty.nm : Ty → String
  | .bool => "bool" | .int => "int" | .str => "str" | .list => "list" | .tuple => "tuple"
def Ty.isBl : Ty → Bool
  | .bool => true | .int => true | _ => false
def Ty.isInt : Ty → Bool
  | .int => true | _ => false
def Ty.isStr : Ty → Bool
  | .str => true | _ => false
def Ty.isLst : Ty → Bool
  | .list => true | _ => false
def Ty.isTup : Ty → Bool
  | .tuple => true | _ => false
section
variable {K : PySem.W.Frag}
theorem kit_non (n : Ty) : PySem.W.kitOne K (.type "NoneType") (.type n.nm) = some false := by cases n <;> with_unfolding_all rfl
theorem kit_bl (n : Ty) : PySem.W.kitOne K (.type "bool") (.type n.nm) = some n.isBl := by cases n <;> with_unfolding_all rfl
theorem kit_int (n : Ty) : PySem.W.kitOne K (.type "int") (.type n.nm) = some n.isInt := by cases n <;> with_unfolding_all rfl
theorem kit_str (n : Ty) : PySem.W.kitOne K (.type "str") (.type n.nm) = some n.isStr := by cases n <;> with_unfolding_all rfl
theorem kit_lst (n : Ty) : PySem.W.kitOne K (.type "list") (.type n.nm) = some n.isLst := by cases n <;> with_unfolding_all rfl
theorem kit_tup (n : Ty) : PySem.W.kitOne K (.type "tuple") (.type n.nm) = some n.isTup := by cases n <;> with_unfolding_all rfl
end
section
variable {X : Cx} {a b e : Expr} {ta tb te : TE} {pos p p2 : Pos}
theorem qe_ty {x : Str} {n : String} (hg : Gl X x) (hm : X.mg x = none) (hv : bootBuiltins x = some (.type n)) (hn : x ≠ "__name__" := by decide) (hd : (x == ("__debug__" : Str)) = false := by decide) : PE X (.Name x pos) (tC (.ty n)) := pe_bltn (v := .ty n) hg hm hv rfl hn hd
def cIsI (n : Ty) (ta : TE) : TE := fun σ H Q => ta σ H fun x H1 => match x with
  | .non => Q (.bl false) H1
  | .bl _ => Q (.bl n.isBl) H1
  | .int _ => Q (.bl n.isInt) H1
  | .str _ => Q (.bl n.isStr) H1
  | .ref p => ((∃ xs, H1 p = some (.lst xs)) ∧ Q (.bl n.isLst) H1) ∨ ((∃ xs, H1 p = some (.tup xs)) ∧ Q (.bl n.isTup) H1)
  | _ => False
theorem qe_isinst {x : Str} (n : Ty) (hg : Gl X "isinstance") (hm : X.mg "isinstance" = none) (ha : PE X a ta) (hg2 : Gl X x) (hm2 : X.mg x = none) (hv2 : bootBuiltins x = some (.type n.nm)) (hn2 : x ≠ "__name__" := by decide) (hd2 : (x == ("__debug__" : Str)) = false := by decide)
    (hs : starEach [a, .Name x p2] X.env = (false, eval a X.env) :: starEach [.Name x p2] X.env := by rfl) (hpl : (backTo pos (starEach [.Name x p2] X.env)).any (·.1) = false := by rfl) : PE X (.Call (.Name "isinstance" p) [a, .Name x p2] [] pos) (cIsI n ta) :=
  (pe_callB call_isinst hg hm bb_isinstance (pa_cons ha.mono (pa_cons (qe_ty hg2 hm2 hv2 hn2 hd2) pa_nil) hs) (he := hs) (hpl := hpl)).imp fun σ H Q q => ⟨_, q, fun v H1 z => by
    show ∃ x n t b, [v, V.ty _] = [x, .ty n] ∧ TyOf X.K H1 x t ∧ PySem.W.kitOne X.K t (.type n) = some b ∧ Q (.bl b) H1
    split at z
    · exact ⟨_, _, _, _, rfl, .non, kit_non n, z⟩
    · exact ⟨_, _, _, _, rfl, .bl _, kit_bl n, z⟩
    · exact ⟨_, _, _, _, rfl, .int _, kit_int n, z⟩
    · exact ⟨_, _, _, _, rfl, .str _, kit_str n, z⟩
    · rcases z with ⟨⟨xs, h⟩, z⟩ | ⟨⟨xs, h⟩, z⟩
      · exact ⟨_, _, _, _, rfl, .lst h, kit_lst n, z⟩
      · exact ⟨_, _, _, _, rfl, .tup h, kit_tup n, z⟩
    · exact z.elim⟩
/-- int(x): an int, a truth, a text of one figure -/
def kInt : List V → Hp → VK → Prop := fun xs H Q => match xs with
  | [.int i] => Q (.int i) H
  | [.bl k] => Q (.int (if k then 1 else 0)) H
  | [.str z] => ∃ c : Nat, z.cps.toList = [c] ∧ 48 ≤ c ∧ c ≤ 57 ∧ Q (.int ((c - 48 : Nat) : Int)) H
  | _ => False
/-- slices: a text's beginning or end; a list's -/
def kSl (K : PySem.W.Frag) : V → Option Int → Option Int → Hp → VK → Prop := fun x lo hi H Q => match x with
  | .str z => match lo, hi with
    | none, some j => z.cps.toList.length ≤ 100000 ∧ 0 ≤ j ∧ j ≤ z.cps.toList.length ∧ Q (.str (st (z.cps.toList.take j.toNat))) H
    | some i, none => z.cps.toList.length ≤ 100000 ∧ 0 ≤ i ∧ i ≤ z.cps.toList.length ∧ Q (.str (st (z.cps.toList.drop i.toNat))) H
    | _, _ => False
  | .ref a => ∃ xs, SqL K H a xs ∧ ∀ p, H p = none → Q (.ref p) (upd H p (.lst (cutV xs lo hi)))
  | _ => False
theorem sl_K : SlR X (kSl X.K) := by
  refine (SlR.or sl_str sl_list).imp fun x lo hi H Q q => ?_
  unfold kSl at q
  split at q
  · rename_i z
    split at q
    · obtain ⟨h, h0, h1, q⟩ := q
      rename_i j
      obtain ⟨k, rfl⟩ : ∃ k : Nat, j = k := ⟨j.toNat, by omega⟩
      refine .inl ⟨z, rfl, by rw [strlen]; exact Nat.le_trans h big5, ?_⟩
      have e := slice_to z.cps.toList k (by omega)
      rw [st_eta] at e
      rw [e]
      simpa using q
    · obtain ⟨h, h0, h1, q⟩ := q
      rename_i j
      obtain ⟨k, rfl⟩ : ∃ k : Nat, j = k := ⟨j.toNat, by omega⟩
      refine .inl ⟨z, rfl, by rw [strlen]; exact Nat.le_trans h big5, ?_⟩
      have e := slice_from z.cps.toList k (by omega)
      rw [st_eta] at e
      rw [e]
      simpa using q
    · exact q.elim
  · obtain ⟨xs, h, q⟩ := q
    exact .inr ⟨_, _, rfl, h, q⟩
  · exact q.elim
/-- xs == [] -/
def kEqNil (K : PySem.W.Frag) : R2 := fun x y H Q => match x, y with
  | .ref a, .ref b => ∃ xs, SqL K H a xs ∧ SqL K H b [] ∧ Q (.bl (decide (xs = []))) H
  | _, _ => False
theorem op_eqL (hu : X.A.units < cLine) : OpR X (compareOp .Eq) (kEqNil X.K) := (op_eq_nil hu).imp fun x y H Q q => by
  unfold kEqNil at q
  split at q
  · obtain ⟨xs, h1, h2, q⟩ := q
    exact ⟨_, _, _, rfl, rfl, h1, h2, q⟩
  · exact q.elim
theorem hu1 {k : Nat} {A : Around} (hr : Room k A) : A.units < cLine := hr.units0
/-- is, of truths and None -/
def kIsB (neg : Bool) : R2 := fun x y H Q => match x, y with
  | .bl a, .bl b => Q (.bl (neg ^^ (a == b))) H
  | _, _ => False
def cNeg (ta : TE) : TE := fun σ H Q => ta σ H fun x H1 => match x with
  | .int i => Q (.int (-i)) H1
  | _ => False
theorem qe_neg (ha : PE X a ta) : PE X (.UnaryOp .USub a pos) (cNeg ta) := (pe_un un_neg ha.mono).imp fun σ H Q q => ⟨_, q, fun v H1 z => by
  split at z
  · exact ⟨_, rfl, z⟩
  · exact z.elim⟩
end
/-! ### with the fragment named (inside a comprehension's block) -/
section
variable {X : Cx} {a b e : Expr} {ta tb te : TE} {pos p apos cpos : Pos}
theorem ixE (K : PySem.W.Frag) (h : X.K = K) : IxR X (kIx K) := by subst h; exact ix_K
theorem slE (K : PySem.W.Frag) (h : X.K = K) : SlR X (kSl K) := by subst h; exact sl_K
theorem lenE (K : PySem.W.Frag) (h : X.K = K) : CallR X (.builtin "len") (kLen K) := by subst h; exact call_lenK
theorem inE (K : PySem.W.Frag) (h : X.K = K) : OpR X (compareOp .In) (kIn K false) := by subst h; exact op_inK
theorem notinE (K : PySem.W.Frag) (h : X.K = K) : OpR X (compareOp .NotIn) (kIn K true) := by subst h; exact op_notinK
theorem eqNilE (K : PySem.W.Frag) (h : X.K = K) (hu : X.A.units < cLine) : OpR X (compareOp .Eq) (kEqNil K) := by subst h; exact op_eqL hu
theorem joinE (K : PySem.W.Frag) (h : X.K = K) {j : Nat} {p1 : Pos} (he : PE X e te) (hfew : ((backTo cpos (starEach [e] X.env)).all (fun x => !x.1) && (backToKw cpos (keywordEach [] X.env)).all (fun x => x.1.isSome)
      && decide ([e].length + ([] : List Keyword).length + (if ([] : List Keyword).isEmpty then 0 else 1) < 30)) = true := by rfl)
    (hline : (apos.endLine == cpos.line) = true := by rfl) (hs : starEach [e] X.env = (false, eval e X.env) :: starEach [] X.env := by rfl) (hplain : (backTo cpos (starEach [] X.env)).any (·.1) = false := by rfl)
    (hbase : attributeBase (.Constant (.str (Str.ofString "")) j p1) "join" X.env (eval (.Constant (.str (Str.ofString "")) j p1) X.env) = eval (.Constant (.str (Str.ofString "")) j p1) X.env := by rfl) :
    PE X (.Call (.Attribute (.Constant (.str (Str.ofString "")) j p1) "join" apos) [e] [] cpos) (cJoin1 K te) := by subst h; exact qe_join1 he hfew hline hs hplain hbase
theorem iterE (K : PySem.W.Frag) (h : X.K = K) {tg : Expr} (he : PE X e te) : PI X tg e (cIter K te) := by subst h; exact qi_iter he
theorem tupE (K : PySem.W.Frag) (h : X.K = K) {es : List Expr} {k : Nat} {t : TGs} {n : Nat} (hc : X.calm = true) (hp : PGs X es t) (hn : (assignEach es X.env).length = n := by rfl) (hst : (assignEach es X.env).findIdx? (·.1) = none := by rfl) : PG X (.Tuple es k pos) (gTup K n t) := by subst h; exact pg_tup hc hp hn hst
end
/-! ### readings, applied -/
section
variable {t u : TS} {te ta tb : TE} {tc : TT} {D : Ends} {σ : St} {H : Hp} {Q : VK} {R : Bool → Hp → Prop} {i : Nat} {v : V}
theorem a_cVar : cVar i σ H Q = (match σ[i]? with | some (some v) => Q v H | _ => False) := rfl
theorem a_tC : tC v σ H Q = Q v H := rfl
theorem a_tOp {r : R2} : tOp r ta tb σ H Q = ta σ H fun x H1 => tb σ H1 fun y H2 => r x y H2 Q := rfl
theorem a_kAddI {a b : Int} : kAdd (.int a) (.int b) H Q = Q (.int (a + b)) H := rfl
theorem a_kAddS {a b : List Nat} : kAdd (.str (st a)) (.str (st b)) H Q = (a.length + b.length ≤ 100000 ∧ Q (.str (st (a ++ b))) H) := rfl
theorem a_kAddL {a b : Addr} : kAdd (.ref a) (.ref b) H Q = ∃ xs zs, H a = some (.lst xs) ∧ H b = some (.lst zs) ∧ xs.length + zs.length ≤ sizeLine ∧ ∀ p, H p = none → Q (.ref p) (upd H p (.lst (xs ++ zs))) := rfl
theorem a_kI {C : Int → Int → Prop} {g : Int → Int → V} {a b : Int} : kI C g (.int a) (.int b) H Q = (C a b ∧ Q (g a b) H) := rfl
theorem a_kI0 {g : Int → Int → V} {a b : Int} : kI0 g (.int a) (.int b) H Q = Q (g a b) H := rfl
theorem a_kMulI {a b : Int} : kMul (.int a) (.int b) H Q = (CMul a b ∧ Q (.int (a * b)) H) := rfl
theorem a_kMulS {c : Nat} {n : Int} : kMul (.str (st [c])) (.int n) H Q = (0 ≤ n ∧ n ≤ 10000 ∧ Q (.str (st (List.replicate n.toNat c))) H) := by
  show (∃ d, [c] = [d] ∧ 0 ≤ n ∧ n ≤ 10000 ∧ Q (.str (st (List.replicate n.toNat d))) H) = _
  refine propext ⟨?_, fun h => ⟨c, rfl, h⟩⟩
  rintro ⟨d, e, h⟩
  cases e
  exact h
theorem a_kEqI {n : Bool} {a b : Int} : kEq n (.int a) (.int b) H Q = Q (.bl (n ^^ decide (a = b))) H := rfl
theorem a_kEqS {n : Bool} {a b : List Nat} : kEq n (.str (st a)) (.str (st b)) H Q = Q (.bl (n ^^ decide (a = b))) H := rfl
theorem a_kEqB {n : Bool} {a b : Bool} : kEq n (.bl a) (.bl b) H Q = Q (.bl (n ^^ decide (a = b))) H := rfl
theorem a_kEqNS {n : Bool} {b : Str} : kEq n .non (.str b) H Q = Q (.bl (n ^^ false)) H := rfl
theorem a_kEqSN {n : Bool} {b : Str} : kEq n (.str b) .non H Q = Q (.bl (n ^^ false)) H := rfl
theorem a_kEqNN {n : Bool} : kEq n .non .non H Q = Q (.bl (n ^^ true)) H := rfl
theorem a_kIs {n : Bool} {x : V} : kIs n x .non H Q = Q (.bl (n ^^ decide (x = .non))) H := rfl
theorem a_kIsB {n a b : Bool} : kIsB n (.bl a) (.bl b) H Q = Q (.bl (n ^^ (a == b))) H := rfl
theorem a_kInS {K : PySem.W.Frag} {n : Bool} {c : Nat} {b : List Nat} : kIn K n (.str (st [c])) (.str (st b)) H Q = Q (.bl (n ^^ decide (c ∈ b))) H := by
  show (∃ d, [c] = [d] ∧ Q (.bl (n ^^ decide (d ∈ b))) H) = _
  refine propext ⟨?_, fun h => ⟨c, rfl, h⟩⟩
  rintro ⟨d, e, h⟩
  cases e
  exact h
theorem a_kInL {K : PySem.W.Frag} {n : Bool} {x : V} {p : Addr} : kIn K n x (.ref p) H Q = ∃ xs, (SqL K H p xs ∨ SqT K H p xs) ∧ flatV x = true ∧ xs.all flatV = true ∧ Q (.bl (n ^^ inV x xs)) H := by
  cases x <;> rfl
theorem a_kIxS {K : PySem.W.Frag} {l : List Nat} {j : Int} : kIx K (.str (st l)) (.int j) H Q = (l.length ≤ 100000 ∧ ∃ c, atI l j = some c ∧ Q (.str (st [c])) H) := rfl
theorem a_kIxL {K : PySem.W.Frag} {p : Addr} {j : Int} : kIx K (.ref p) (.int j) H Q = ∃ xs v, (SqL K H p xs ∨ SqT K H p xs) ∧ atI xs j = some v ∧ Q v H := rfl
theorem a_kLenS {K : PySem.W.Frag} {l : List Nat} : kLen K [.str (st l)] H Q = (l.length ≤ 100000 ∧ Q (.int l.length) H) := rfl
theorem a_kLenL {K : PySem.W.Frag} {p : Addr} : kLen K [.ref p] H Q = ∃ ys, (SqL K H p ys ∨ SqT K H p ys) ∧ Q (.int ys.length) H := rfl
theorem a_kIntI {a : Int} : kInt [.int a] H Q = Q (.int a) H := rfl
theorem a_kIntB {a : Bool} : kInt [.bl a] H Q = Q (.int (if a then 1 else 0)) H := rfl
theorem a_kIntS {c : Nat} : kInt [.str (st [c])] H Q = (48 ≤ c ∧ c ≤ 57 ∧ Q (.int ((c - 48 : Nat) : Int)) H) := by
  show (∃ d : Nat, [c] = [d] ∧ 48 ≤ d ∧ d ≤ 57 ∧ Q (.int ((d - 48 : Nat) : Int)) H) = _
  refine propext ⟨?_, fun h => ⟨c, rfl, h⟩⟩
  rintro ⟨d, e, h⟩
  cases e
  exact h
theorem a_kSlTo {K : PySem.W.Frag} {l : List Nat} {j : Int} : kSl K (.str (st l)) none (some j) H Q = (l.length ≤ 100000 ∧ 0 ≤ j ∧ j ≤ l.length ∧ Q (.str (st (l.take j.toNat))) H) := rfl
theorem a_kSlFrom {K : PySem.W.Frag} {l : List Nat} {j : Int} : kSl K (.str (st l)) (some j) none H Q = (l.length ≤ 100000 ∧ 0 ≤ j ∧ j ≤ l.length ∧ Q (.str (st (l.drop j.toNat))) H) := rfl
theorem a_kSlL {K : PySem.W.Frag} {p : Addr} {lo hi : Option Int} : kSl K (.ref p) lo hi H Q = ∃ xs, SqL K H p xs ∧ ∀ q, H q = none → Q (.ref q) (upd H q (.lst (cutV xs lo hi))) := rfl
theorem a_tSl {r : V → Option Int → Option Int → Hp → VK → Prop} {tl th : TO} : tSl r te tl th σ H Q = te σ H fun x H1 => tl σ H1 fun l H2 => th σ H2 fun u H3 => r x l u H3 Q := rfl
theorem a_tNoPart {Q : Option Int → Hp → Prop} : tNoPart σ H Q = Q none H := rfl
def cPart (t : TE) : TO := fun σ H Q => t σ H fun x H1 => match x with | .int i => Q (some i) H1 | _ => False
theorem a_cPart {Q : Option Int → Hp → Prop} : cPart te σ H Q = te σ H fun x H1 => match x with | .int i => Q (some i) H1 | _ => False := rfl
theorem a_cNeg : cNeg ta σ H Q = ta σ H fun x H1 => match x with | .int i => Q (.int (-i)) H1 | _ => False := rfl
theorem a_kEqNil {K : PySem.W.Frag} {a b : Addr} : kEqNil K (.ref a) (.ref b) H Q = ∃ xs, SqL K H a xs ∧ SqL K H b [] ∧ Q (.bl (decide (xs = []))) H := rfl
theorem a_cIsI {n : Ty} : cIsI n ta σ H Q = ta σ H fun x H1 => match x with
  | .non => Q (.bl false) H1
  | .bl _ => Q (.bl n.isBl) H1
  | .int _ => Q (.bl n.isInt) H1
  | .str _ => Q (.bl n.isStr) H1
  | .ref p => ((∃ xs, H1 p = some (.lst xs)) ∧ Q (.bl n.isLst) H1) ∨ ((∃ xs, H1 p = some (.tup xs)) ∧ Q (.bl n.isTup) H1)
  | _ => False := rfl
theorem a_cTest : cTest te σ H R = te σ H (blK R) := rfl
theorem a_blK {b : Bool} : blK R (.bl b) H = R b H := rfl
theorem a_cAndV : cAndV ta tb σ H Q = ta σ H (blK fun c H1 => if c = true then tb σ H1 Q else Q (.bl false) H1) := rfl
theorem a_cOrV : cOrV ta tb σ H Q = ta σ H (blK fun c H1 => if c = true then Q (.bl true) H1 else tb σ H1 Q) := rfl
theorem a_cNotV : cNotV ta σ H Q = ta σ H (blK fun c H1 => Q (.bl (!c)) H1) := rfl
theorem a_tAnd {t u : TT} : tAnd t u σ H R = t σ H fun c H1 => if c = true then u σ H1 R else R false H1 := rfl
theorem a_tOr {t u : TT} : tOr t u σ H R = t σ H fun c H1 => if c = true then R true H1 else u σ H1 R := rfl
theorem a_tNot {t : TT} : tNot t σ H R = t σ H fun c H1 => R (!c) H1 := rfl
theorem a_tYes : tYes σ H R = R true H := rfl
theorem a_tIf : tIf tc ta tb σ H Q = tc σ H fun c H1 => if c = true then ta σ H1 Q else tb σ H1 Q := rfl
theorem a_cApp : cApp ta te σ H Q = ta σ H fun x H1 => match x with
  | .ref l => (∃ xs, H1 l = some (.lst xs)) ∧ te σ H1 fun y H2 => ∃ xs, H2 l = some (.lst xs) ∧ xs.length < sizeLine ∧ Q .non (upd H2 l (.lst (xs ++ [y])))
  | _ => False := rfl
theorem a_cJoin1 {K : PySem.W.Frag} : cJoin1 K te σ H Q = te σ H fun x H1 => match x with
  | .ref l => ∃ cs : List Nat, SqL K H1 l (cs.map fun k => V.str (st [k])) ∧ cs.length ≤ 10000 ∧ Q (.str (st cs)) H1
  | _ => False := rfl
theorem a_tNil {R : List V → Hp → Prop} : tNil σ H R = R [] H := rfl
theorem a_tCons {t : TA} {R : List V → Hp → Prop} : tCons ta t σ H R = ta σ H fun x H1 => t σ H1 fun xs H2 => R (x :: xs) H2 := rfl
theorem a_tCall {sp : Sp} {E : XK} {t : TA} : tCall sp [] E t σ H Q = t σ H fun vs H1 => sp vs H1 Q E := by
  unfold tCall
  simp only [List.append_nil]
theorem a_tCB {r : List V → Hp → VK → Prop} {t : TA} : tCB r t σ H Q = t σ H fun vs H1 => r vs H1 Q := rfl
theorem a_tLst {t : TA} : tLst t σ H Q = t σ H fun xs H1 => xs.length ≤ sizeLine ∧ ∀ p, H1 p = none → Q (.ref p) (upd H1 p (.lst xs)) := rfl
theorem a_tTup {t : TA} : tTup t σ H Q = t σ H fun xs H1 => xs.length ≤ sizeLine ∧ ∀ p, H1 p = none → Q (.ref p) (upd H1 p (.tup xs)) := rfl
theorem a_tNext : tNext D σ H = D.nx σ H := rfl
theorem a_tSeq : tSeq t u D σ H = t { D with nx := u D } σ H := rfl
theorem a_tDrop : tDrop te D σ H = te σ H fun _ H1 => D.nx σ H1 := rfl
theorem a_tRet : tRet te D σ H = te σ H D.rt := rfl
theorem a_tRetN : tRetN D σ H = D.rt .non H := rfl
theorem a_tIfS : tIfS tc t u D σ H = tc σ H fun b H1 => if b = true then t D σ H1 else u D σ H1 := rfl
theorem a_tAsg {g : TG} : tAsg te g D σ H = te σ H fun x H1 => g x σ H1 D.nx := rfl
theorem a_gName {R : St → Hp → Prop} : gName i v σ H R = R (σ.set i (some v)) H := rfl
theorem a_tJoin : tJoin t u D σ H = ∃ J : St → Hp → Prop, t { D with nx := J } σ H ∧ ∀ σ' H', J σ' H' → u D σ' H' := rfl
theorem a_cFor {wi : TI} {g : TG} : cFor wi g t D σ H = wi σ H fun J H1 => loopW J g t D σ H1 := rfl
theorem a_cIter {K : PySem.W.Frag} {R : It → Hp → Prop} : cIter K te σ H R = te σ H fun x H1 => match x with
  | .str z => R (Its z) H1
  | .ref a => ((∃ xs, SqL K H1 a xs) ∧ R (Itl K a) H1) ∨ ((∃ xs, SqT K H1 a xs) ∧ R (Itt K a) H1)
  | _ => False := rfl
theorem a_cRng1 {R : It → Hp → Prop} : cRng1 te σ H R = te σ H fun x H1 => match x with
  | .int j => -1000000 ≤ j ∧ j ≤ 1000000 ∧ R (Itr 0 j.toNat) H1
  | _ => False := rfl
theorem a_cRng2 {R : It → Hp → Prop} : cRng2 ta tb σ H R = ta σ H fun x H1 => tb σ H1 fun y H2 => match x, y with
  | .int i, .int j => (-1000000 ≤ i ∧ i ≤ 1000000 ∧ -1000000 ≤ j ∧ j ≤ 1000000) ∧ R (Itr i (j - i).toNat) H2
  | _, _ => False := rfl
theorem a_cZip {K : PySem.W.Frag} {R : It → Hp → Prop} : cZip K ta tb σ H R = ta σ H fun x H1 => tb σ H1 fun y H2 => srcK K H2 x fun S1 => srcK K H2 y fun S2 => R (Itz K S1 S2) H2 := rfl
theorem a_srcKS {K : PySem.W.Frag} {z : Str} {R : Src → Prop} : srcK K H (.str z) R = R (.str z) := rfl
theorem a_srcKL {K : PySem.W.Frag} {p : Addr} {R : Src → Prop} : srcK K H (.ref p) R = ((∃ xs, SqL K H p xs) ∧ R (.lst p)) := rfl
theorem a_cComp {nt : Nat} {fi : List Nat} {wi : TI} {g : TG} : cComp nt fi wi g tc te σ H Q = wi σ H fun J H1 => ∀ D, H1 D = none → compW J g tc te (compσ nt fi σ) D Q H1 := rfl
end
theorem a_cxK {CX : CXT} {P : Program} {w : World} {K : PySem.W.Frag} {mg : Str → Option Value} {base : Heap} {N : List Str} {qual : Str} {scope : Scope} {f : Addr} {cd : Value} {A : Around} {outer : List Env} {s : Shared} {H : Hp} {E : XK} : (cxOf CX P w K mg base N qual scope f cd A outer s H E).K = K := rfl
theorem a_cxCK {X : Cx} {scope : Scope} {cl : List (Str × Addr)} {N' : List Str} {C : Addr} {s : Shared} {H : Hp} {ex : List Addr} : (cxC X scope cl N' C s H ex).K = X.K := rfl
theorem a_one {a b : Nat} : (([a] : List Nat) = [b]) = (a = b) := by simp
theorem qo_some {X : Cx} {e : Expr} {te : TE} (h : PE X e te) : PO X (some e) (cPart te) := fun pins s σ H Q I q => po_some h.mono pins s σ H Q I ⟨_, q, fun v H1 z => by
  split at z
  · exact ⟨_, rfl, z⟩
  · exact z.elim⟩
end L2


set_option linter.all false
/-! What the laws' own small defs reckon, over plain data. -/
namespace Mir
open PySem L2
def cell (ns : List Int) (k : Nat) : Int := (ns[k]?).getD 0
theorem cell_lt {ns : List Int} {k : Int} (h0 : 0 ≤ k) (h : k < ns.length) : atI (ns.map V.int) k = some (V.int (cell ns k.toNat)) := by
  obtain ⟨j, rfl⟩ : ∃ j : Nat, k = j := ⟨k.toNat, by omega⟩
  have hj : j < ns.length := by omega
  refine atI_nat ?_
  simp [cell, hj]
theorem cell_ge {ns : List Int} {k : Int} (h : ¬ k < ns.length) : cell ns k.toNat = 0 := by
  have hj : ns.length ≤ k.toNat := by omega
  simp [cell, hj]
def num (c : Int) : Nat → Int
  | 0 => c % 2147483647 + 1
  | i + 1 => (num c i * 48271 + 7 * (i : Int) * (i : Int) + 3) % 2147483647
theorem num_lo (c : Int) (i : Nat) : 0 ≤ num c i := by
  cases i with
  | zero => simp only [num]; omega
  | succ i => simp only [num]; omega
theorem num_hi (c : Int) (i : Nat) : num c i ≤ 2147483647 := by
  cases i with
  | zero => simp only [num]; omega
  | succ i => simp only [num]; omega
def stream (c : Int) (n : Nat) : List Int := (List.range n).map fun i => num c (i + 1) / 16
theorem stream_len (c : Int) (n : Nat) : (stream c n).length = n := by simp [stream]
theorem stream_snoc (c : Int) (n : Nat) : stream c (n + 1) = stream c n ++ [num c (n + 1) / 16] := by
  simp [stream, List.range_succ]
theorem stream_nn {c : Int} {n : Nat} {e : Int} (h : e ∈ stream c n) : 0 ≤ e := by
  simp only [stream, List.mem_map] at h
  obtain ⟨i, _, rfl⟩ := h
  have := num_lo c (i + 1)
  omega
/-- '01'[m % 2] -/
def bit (m : Int) : Nat := if m % 2 = 0 then 48 else 49
theorem at01 (m : Int) : atI [48, 49] (m % 2) = some (bit m) := by
  have h : m % 2 = 0 ∨ m % 2 = 1 := by omega
  unfold bit
  rcases h with h | h <;> rw [h] <;> rfl
def rowSign (l e : Int) : Nat := if e % l > 0 then 45 else bit (e / 64)
def row (c : Int) (w : Nat) (l : Int) : List Nat := (stream c w).map (rowSign l)
theorem row_len (c : Int) (w : Nat) (l : Int) : (row c w l).length = w := by simp [row, stream_len]
/-- row_within -/
def within (one other : List Nat) : Bool := (one.zip other).all fun p => p.2 == 45 || p.2 == p.1
end Mir


set_option linter.all false
namespace L2
open PySem PySem.Spec PyProof.Rows
theorem z_pos {K : Params → PySem.W.Frag} {as : List Addr} {n t : Nat} {w : World} {s : Shared} (y : PySem.W.X.obsZ as s = PySem.W.X.valZ K n t w) (e : ∀ P, as = (K P).map (·.1)) (ht : 0 < t) : (K w.params).In s.heap ∧ 0 < s.toks := by
  obtain ⟨_, h, _, q⟩ := PySem.W.X.z_facts e y
  exact ⟨h, by rw [q]; exact ht⟩
/-! ### a list unpacked -/
section
variable {prog : Program} {w : World} {A : Around} {E : Value → Shared → Prop} {s : Shared}
theorem IsList.extBut' {h h' : Heap} {a l : Addr} {items : Array Value} (hl : h.IsList l items) (he : Heap.ExtBut a h h') (hne : l ≠ a) : h'.IsList l items := by
  obtain ⟨o, ho, r⟩ := hl
  exact ⟨o, he l o hne ho, r⟩
end
section
variable {X : Cx} {pos : Pos}
def gSeq (K : PySem.W.Frag) (n : Nat) (t : TGs) : TG := fun v σ H Q => match v with
  | .ref a => ∃ xs, (SqL K H a xs ∨ SqT K H a xs) ∧ xs.length = n ∧ t xs σ H Q
  | _ => False
end
section
variable {t : TG} {u : TGs} {σ : St} {H : Hp} {Q : St → Hp → Prop} {v : V} {r : List V} {K : PySem.W.Frag} {n : Nat} {p : Addr}
theorem a_gCons : gCons t u (v :: r) σ H Q = t v σ H fun σ' H' => u r σ' H' Q := by
  refine propext ⟨?_, fun h => ⟨v, r, rfl, h⟩⟩
  rintro ⟨v', r', e, h⟩
  cases e
  exact h
theorem a_gNil : gNil [] σ H Q = Q σ H := propext ⟨fun h => h.2, fun h => ⟨rfl, h⟩⟩
theorem a_gSeq : gSeq K n u (.ref p) σ H Q = ∃ xs, (SqL K H p xs ∨ SqT K H p xs) ∧ xs.length = n ∧ u xs σ H Q := rfl
end
/-! ### replace, count -/
def rep (c d : Nat) (l : List Nat) : List Nat := l.map fun k => if k = c then d else k
section
variable {X : Cx} {o e : Expr} {to te : TE} {apos cpos p1 p2 : Pos} {j1 j2 : Nat}
def cRepl (c d : Nat) (to : TE) : TE := fun σ H Q => to σ H fun x H1 => match x with
  | .str a => a.cps.toList.length ≤ 10000 ∧ Q (.str (st (rep c d a.cps.toList))) H1
  | _ => False
def cCount (c : Nat) (to : TE) : TE := fun σ H Q => to σ H fun x H1 => match x with
  | .str a => Q (.int (a.cps.toList.count c : Nat)) H1
  | _ => False
/-- list(x): a text's signs, a list's or tuple's items -/
def kList (K : PySem.W.Frag) : List V → Hp → VK → Prop := fun xs H Q => match xs with
  | [.str z] => z.cps.toList.length ≤ 100000 ∧ ∀ p, H p = none → Q (.ref p) (upd H p (.lst (z.cps.toList.map fun c => V.str (st [c]))))
  | [.ref a] => ∃ ys, (SqL K H a ys ∨ SqT K H a ys) ∧ ∀ p, H p = none → Q (.ref p) (upd H p (.lst ys))
  | _ => False
theorem vals_signs {x : Str} {acc : Array Value} (h : ItemsOf (SignAt x) acc x.cps.size) : Vals (x.cps.toList.map fun c => V.str (st [c])) acc.toList := by
  obtain ⟨hs, hi⟩ := h
  have key : ∀ (l : List Nat) (us : List Value), l.length = us.length → (∀ (j : Nat) (v : Value), us[j]? = some v → ∃ (c : Nat) (u : Tok), l[j]? = some c ∧ v = Value.str ⟨#[c]⟩ u) → Vals (l.map fun c => V.str (st [c])) us := by
    intro l
    induction l with
    | nil =>
      intro us hl _
      cases us with
      | nil => exact .nil
      | cons => cases hl
    | cons a l ih =>
      intro us hl hq
      cases us with
      | nil => cases hl
      | cons v us =>
        obtain ⟨c, u, e, rfl⟩ := hq 0 v rfl
        cases e
        exact .cons ⟨u, rfl⟩ (ih us (by simpa using hl) fun j w hj => hq (j + 1) w hj)
  refine key _ _ (by simp [hs]) fun j v hj => ?_
  obtain ⟨c, u, e, rfl⟩ := hi j v (by simpa using hj)
  exact ⟨c, u, by simpa using e, rfl⟩
theorem call_listK (K : PySem.W.Frag) (hK : X.K = K) (hc : X.calm = true) : CallR X (.type "list") (kList K) := by
  subst hK
  intro pins s σ H xs us Q I r q
  unfold kList at q
  split at q
  · obtain ⟨hl, q⟩ := q
    rename_i z
    obtain ⟨u, rfl, t, rfl⟩ := vals1 r
    have hz : z.cps.size ≤ sizeLine := by
      have := big5
      simp only [Array.length_toList] at hl
      omega
    refine tokQ I.tk (call_list_str (I.ok.hd hc) z t (fun h' tk acc c' kp ho hi (htk : 0 < tk) => ?_) hz)
    refine ⟨.ref s.heap.objs.size, _, I.laid (a := s.heap.objs.size) (o := .lst (z.cps.toList.map fun c => V.str (st [c]))) kp (Nat.le_refl _) ⟨?_, acc.toList, c', vals_signs hi, by simpa using ho⟩, rfl, q _ I.fresh⟩
    rw [List.length_map]
    simpa using hz
  · obtain ⟨ys, h, q⟩ := q
    exact call_list_of pins s σ H _ us Q I r ⟨_, ys, rfl, h, q⟩
  · exact q.elim
theorem a_kListS {K : PySem.W.Frag} {l : List Nat} {H : Hp} {Q : VK} : kList K [.str (st l)] H Q = (l.length ≤ 100000 ∧ ∀ p, H p = none → Q (.ref p) (upd H p (.lst (l.map fun c => V.str (st [c]))))) := rfl
theorem a_kListL {K : PySem.W.Frag} {a : Addr} {H : Hp} {Q : VK} : kList K [.ref a] H Q = ∃ ys, (SqL K H a ys ∨ SqT K H a ys) ∧ ∀ p, H p = none → Q (.ref p) (upd H p (.lst ys)) := rfl
theorem a_cRepl {c d : Nat} {σ : St} {H : Hp} {Q : VK} : cRepl c d to σ H Q = to σ H fun x H1 => match x with
  | .str a => a.cps.toList.length ≤ 10000 ∧ Q (.str (st (rep c d a.cps.toList))) H1
  | _ => False := rfl
theorem a_cCount {c : Nat} {σ : St} {H : Hp} {Q : VK} : cCount c to σ H Q = to σ H fun x H1 => match x with
  | .str a => Q (.int (a.cps.toList.count c : Nat)) H1
  | _ => False := rfl
/-- tuple(text) -/
def kTuple : List V → Hp → VK → Prop := fun xs H Q => match xs with
  | [.str z] => z.cps.toList.length ≤ 100000 ∧ ∀ p, H p = none → Q (.ref p) (upd H p (.tup (z.cps.toList.map fun c => V.str (st [c]))))
  | _ => False
theorem call_tupleK (hc : X.calm = true) : CallR X (.type "tuple") kTuple := by
  intro pins s σ H xs us Q I r q
  unfold kTuple at q
  split at q
  · obtain ⟨hl, q⟩ := q
    rename_i z
    obtain ⟨u, rfl, t, rfl⟩ := vals1 r
    have hz : z.cps.size ≤ sizeLine := by
      have := big5
      simp only [Array.length_toList] at hl
      omega
    refine tokQ I.tk (call_tuple_str (I.ok.hd hc) z t (fun h' tk acc kp hi (htk : 0 < tk) => ?_) hz)
    have I1 : Inv X pins σ H { s with heap := h', toks := tk } := I.kept kp
    refine ⟨.ref h'.objs.size, _, I1.laid (t' := tk) (a := h'.objs.size) (o := .tup (z.cps.toList.map fun c => V.str (st [c]))) (fun b u e => Heap.get?_push_of_some _ e) (Nat.le_refl _) ⟨?_, acc.toList, vals_signs hi, ⟨_, Heap.get?_push_size _ rfl, rfl, _, by simp; rfl⟩⟩, rfl, q _ I1.fresh⟩
    rw [List.length_map]
    simpa using hz
  · exact q.elim
theorem a_kTupleS {l : List Nat} {H : Hp} {Q : VK} : kTuple [.str (st l)] H Q = (l.length ≤ 100000 ∧ ∀ p, H p = none → Q (.ref p) (upd H p (.tup (l.map fun c => V.str (st [c]))))) := rfl
end
end L2


set_option linter.all false
namespace L2
open PySem PySem.Spec PyProof.Rows
/-! ### enumerate(text) -/
def Ite (x : Str) : It := ⟨fun i _ => i < x.cps.size, fun i H v H' => ∃ T c, v = .ref T ∧ H T = none ∧ x.cps[i]? = some c ∧ H' = upd H T (.tup [.int i, .str ⟨#[c]⟩]), fun i _ => i = x.cps.size⟩
section
variable {X : Cx} {a : Expr} {ta : TE} {p pos : Pos}
def cEnum (te : TE) : TI := fun σ H R => te σ H fun x H1 => match x with
  | .str z => R (Ite z) H1
  | _ => False
theorem a_cEnum {σ : St} {H : Hp} {R : It → Hp → Prop} : cEnum ta σ H R = ta σ H fun x H1 => match x with
  | .str z => R (Ite z) H1
  | _ => False := rfl
end
end L2
namespace L2
open PySem PySem.Spec PyProof.Rows
/-! ### sum, two stores at once -/
section
variable {X : Cx}
def kSum (K : PySem.W.Frag) : List V → Hp → VK → Prop := fun xs H Q => match xs with
  | [.ref p] => ∃ ns : List Int, SqL K H p (ns.map V.int) ∧ Q (.int ns.sum) H
  | _ => False
theorem call_sumK (K : PySem.W.Frag) (hK : X.K = K) (hc : X.calm = true) : CallR X (.builtin "sum") (kSum K) := by
  subst hK
  intro pins s σ H xs us Q I r q
  unfold kSum at q
  split at q
  · obtain ⟨ns, hq, q⟩ := q
    obtain ⟨u, rfl, ru⟩ := vals1 r
    cases ru
    obtain ⟨its, rv, pl, _⟩ := I.list hq
    have hi := intsAre_of rv
    obtain ⟨xs, e⟩ := hi.allInts.items
    have hn := hi.numsOf
    refine tokQ I.tk (sum_intListG (I.ok.hd hc) (xs := xs) (by rw [← e]; exact pl.isList) fun h' tk t' kp (htk : 0 < tk) => ?_)
    have e2 : preSum (numAt xs) xs.size = ns.sum := by
      rw [preSum_eq, List.take_of_length_le (by simp), ← nums_intItems, ← e]
      show (numsOf its).sum = ns.sum
      rw [hn]
    rw [e2]
    exact ⟨.int ns.sum, H, I.kept kp, ⟨_, rfl⟩, q⟩
  · exact q.elim
theorem a_kSum {K : PySem.W.Frag} {p : Addr} {H : Hp} {Q : VK} : kSum K [.ref p] H Q = ∃ ns : List Int, SqL K H p (ns.map V.int) ∧ Q (.int ns.sum) H := rfl
theorem a_tPar {i j : Nat} {ta tb : TE} {D : Ends} {σ : St} {H : Hp} : tPar i j (tCons ta (tCons tb tNil)) D σ H = ta σ H fun x H1 => tb σ H1 fun y H2 => D.nx ((σ.set i (some x)).set j (some y)) H2 := by
  show (ta σ H fun x H1 => tb σ H1 fun y H2 => ∃ v w, [x, y] = [v, w] ∧ D.nx ((σ.set i (some v)).set j (some w)) H2) = _
  congr 1
  funext x H1
  congr 1
  funext y H2
  refine propext ⟨?_, fun h => ⟨x, y, rfl, h⟩⟩
  rintro ⟨v, w, e, h⟩
  cases e
  exact h
end
end L2


/-! Sets of texts: made of a list, walked in whatever order, sorted. -/
namespace L2
open PySem PySem.Spec PyProof.Rows
/-! ### the table keeps whether it is led, and whether it is plain -/
theorem tab_laid {mask finger moves : Nat} {led plain : Bool} {hs : Array Int} {r : SetTable × Array Nat} (h : SetTable.laid mask finger moves led plain hs = some r) : r.1.led = led ∧ r.1.plain = plain := by
  unfold SetTable.laid at h
  cases q : SetTable.layClean mask hs with
  | none => rw [q] at h; cases h
  | some ow =>
    rw [q] at h
    cases h
    exact ⟨rfl, rfl⟩
theorem tab_relay (t : SetTable) (es : Array (Int × Value)) (n : Nat) : (relayAll t es n).2.1.led = t.led ∧ (t.plain = false → (relayAll t es n).2.1.plain = false) := by
  unfold relayAll
  split
  · rename_i t' order e
    have q := tab_laid e
    dsimp only
    split
    · exact ⟨q.1, fun z => q.2.trans z⟩
    · exact ⟨rfl, fun _ => rfl⟩
  · exact ⟨rfl, fun _ => rfl⟩

/-! ### a set of texts -/
def txtOf : Value → Str
  | .str x _ => x
  | _ => ⟨#[]⟩
/-- the set at a holds the texts of ss, each once, led as asked -/
def IsTexts (w : World) (h : Heap) (a : Addr) (led : Bool) (ss : List Str) : Prop :=
  ∃ es ep t, h.get? a = some { cls := .type "set", dict := none, data := .set es ep t, slots := #[] } ∧ (∀ e ∈ es.toList, ∃ x u, e = (hashStr w x, Value.str x u)) ∧
    (es.toList.map fun e => txtOf e.2).Perm ss ∧ t.fits es.size = true ∧ t.led = led ∧ (es.size ≠ 0 → t.plain = false)
section
variable {prog : Program} {w : World} {A : Around} {E : Value → Shared → Prop} {s : Shared}
/-- how the texts of a set grow -/
def addT (ss : List Str) (x : Str) : List Str := if x ∈ ss then ss else ss ++ [x]
theorem set_put {a : Addr} {es es' : Array (Int × Value)} {ep : Nat} {t t' : SetTable} (ho : s.heap.get? a = some { cls := .type "set", dict := none, data := .set es ep t, slots := #[] }) :
    (s.heap.update a (Obj.putSet es' t')).get? a = some { cls := .type "set", dict := none, data := .set es' (ep + 1) t', slots := #[] } :=
  Heap.get?_update_self (Obj.putSet es' t') ho rfl
-- the rows are stored with the table t2, and once more where the table was too full: walked as it stands
set_option hygiene false
local macro_rules | `(tactic| walk_at "lay_down") => `(tactic| (
  refine wpAny_bind (wpAny_storeSet_of ho rfl ?_ (fits_of_scanBound (by omega)))
  have o1 := set_put (es' := es1) (t' := t2) ho
  have sb1 := Heap.SameBut.update s.heap a (Obj.putSet es1 t2)
  refine wpAny_ite_split (fun _ => ?_) fun _ => ?_
  · have q1 := relayAll_perm t2 es1 (SetTable.grown es1.size)
    have q2 := relayAll_fits t2 es1 (SetTable.grown es1.size)
    have q3 := tab_relay t2 es1 (SetTable.grown es1.size)
    generalize relayAll t2 es1 (SetTable.grown es1.size) = R at q1 q2 q3 ⊢
    obtain ⟨es2, t3, g2⟩ := R
    dsimp only at q1 q2 q3 ⊢
    have z2 : es2.size = es1.size := by have := q1.length_eq; simpa using this
    refine wpAny_bind (gw _ _ _ ?_)
    refine wpAny_bind (wpAny_storeSet_of o1 rfl ?_ (fits_of_scanBound (by omega)))
    have o2 := set_put (s := { s with heap := s.heap.update a (Obj.putSet es1 t2) }) (es' := es2) (t' := t3) o1
    exact wpAny_pure (wpAny_pure (h _ _ (sb1.trans (Heap.SameBut.update _ a _)) ⟨es2, _, t3, o2, fun e he => hel1 e (q1.mem_iff.mp he), (q1.map _).trans hp1, q2, q3.1.trans l2, fun _ => q3.2 n2⟩))
  · exact wpAny_pure (wpAny_pure (h _ _ sb1 ⟨es1, _, t2, o1, hel1, hp1, f2, l2, fun _ => n2⟩))))
set_option hygiene true
end
end L2


namespace L2
open PySem PySem.Spec PyProof.Rows
/-- the texts of a list, each once -/
def dd (l : List Str) : List Str := l.foldl addT []
theorem IsTexts.at {w : World} {h h' : Heap} {a : Addr} {led : Bool} {ss : List Str} (x : IsTexts w h a led ss) (k : ∀ o, h.get? a = some o → h'.get? a = some o) : IsTexts w h' a led ss := by
  obtain ⟨es, ep, t, ho, r⟩ := x
  exact ⟨es, ep, t, k _ ho, r⟩

section
variable {prog : Program} {w : World} {A : Around} {R : Result → Shared → Prop} {I : Addr} {fp wr : List Addr} {G : Array GenState → Array GenState → Prop} {n : Nat} {P : Nat → Value → Prop} {St : Nat → Shared → Prop}
end
end L2


namespace L2
open PySem PySem.Spec PyProof.Rows
set_option maxRecDepth 100000
section
variable {prog : Program} {w : World} {A : Around} {E : Value → Shared → Prop} {s : Shared}
end
end L2


namespace L2
open PySem PySem.Spec PyProof.Rows
set_option maxRecDepth 100000
/-! ### orders -/
section
variable {M : Model} {A : Around} {E : Value → Shared → Prop}
end
/-! ### the places of a set of at most one -/
section
variable {prog : Program} {w : World} {A : Around} {E : Value → Shared → Prop} {s : Shared}
end
end L2


namespace L2
open PySem PySem.Spec PyProof.Rows
set_option maxRecDepth 100000
section
variable {prog : Program} {w : World} {A : Around} {E : Value → Shared → Prop} {s : Shared} {it a : Addr} {es : Array (Int × Value)} {n ep i : Nat} {t : SetTable}
-- the beginning of a turn: the fields are read, the size is as it was
set_option hygiene false
local macro_rules | `(tactic| walk_at "turn_begins") => `(tactic| (
  unfold Builtin.«set_iterator.__next__» slotArgs
  simp only [List.isEmpty_nil, Bool.not_true, Bool.false_eq_true, ↓reduceIte, bind_assoc, List.length_nil, bne_self_eq_false]
  refine wpAny_bind (wpAny_pure ?_)
  dsimp only
  refine wpAny_bind (wpAny_fieldsOf hit rfl ?_)
  dsimp only
  refine wpAny_bind (wpAny_setEntries_of ha rfl hf ?_)
  rw [show ((es.size : Int) != (n : Int)) = false by simp [hz]]
  simp only [Bool.false_eq_true, ↓reduceIte]))
set_option hygiene true
end
end L2


namespace L2
open PySem PySem.Spec PyProof.Rows
set_option maxRecDepth 100000
section
variable {prog : Program} {w : World} {A : Around} {E : Value → Shared → Prop} {s : Shared} {it a : Addr} {es : Array (Int × Value)} {n ep i : Nat} {t : SetTable}
end
end L2


namespace L2
open PySem PySem.Spec PyProof.Rows
set_option maxRecDepth 100000
section
variable {prog : Program} {w : World} {A : Around} {E : Value → Shared → Prop} {s : Shared} {it a : Addr} {es : Array (Int × Value)} {n ep i : Nat} {t : SetTable}
end
end L2


namespace L2
open PySem PySem.Spec PyProof.Rows
set_option maxRecDepth 100000
section
variable {prog : Program} {w : World} {A : Around} {E : Value → Shared → Prop} {s : Shared}
/-- what a walk over the set at a may know: an iterator that is new, a footprint of what is new and the set, the texts in some order -/
structure Walked (prog : Program) (w : World) (A : Around) (h : Heap) (a : Addr) (ss : List Str) (it : Addr) (h' : Heap) : Prop where
  old : ∀ b o, h.get? b = some o → h'.get? b = some o
  new : h.objs.size ≤ it
  walk : ∃ fp St, ∃ xs : List Value, Walks prog w A it fp [it] xs.length (fun i v => xs[i]? = some v) St ∧ St 0 h' ∧ (∀ b ∈ fp, b = a ∨ h.objs.size ≤ b) ∧ (∀ v ∈ xs, ∃ x u, v = Value.str x u) ∧ (xs.map txtOf).Perm ss
end
end L2


namespace L2
open PySem PySem.Spec PyProof.Rows
set_option maxRecDepth 100000
section
variable {prog : Program} {w : World} {A : Around} {E : Value → Shared → Prop} {s : Shared}
end
end L2


namespace L2
open PySem PySem.Spec PyProof.Rows
set_option maxRecDepth 100000
/-! ### texts in their order, each once -/
def ins (x : List Nat) : List (List Nat) → List (List Nat)
  | [] => [x]
  | y :: r => if x = y then y :: r else if x < y then x :: y :: r else y :: ins x r
def srt (l : List (List Nat)) : List (List Nat) := l.foldr ins []
section
variable {prog : Program} {w : World} {A : Around} {E : Value → Shared → Prop} {s : Shared}
end
end L2


namespace L2
open PySem PySem.Spec PyProof.Rows
set_option maxRecDepth 100000
section
variable {X : Cx}
/-- sorted(set(e)), e a list of texts -/
def cSortSet (K : PySem.W.Frag) (te : TE) : TE := fun σ H Q => te σ H fun x H1 => match x with
  | .ref p => ∃ ls : List (List Nat), SqL K H1 p (ls.map fun l => V.str (st l)) ∧ ls.length ≤ 4000 ∧ (srt ls).length < 64 ∧ ∀ q, H1 q = none → Q (.ref q) (upd H1 q (.lst ((srt ls).map fun l => V.str (st l))))
  | _ => False
theorem a_cSortSet {K : PySem.W.Frag} {te : TE} {σ : St} {H : Hp} {Q : VK} : cSortSet K te σ H Q = te σ H fun x H1 => match x with
  | .ref p => ∃ ls : List (List Nat), SqL K H1 p (ls.map fun l => V.str (st l)) ∧ ls.length ≤ 4000 ∧ (srt ls).length < 64 ∧ ∀ q, H1 q = none → Q (.ref q) (upd H1 q (.lst ((srt ls).map fun l => V.str (st l))))
  | _ => False := rfl
end
end L2


namespace L2
open PySem PySem.Spec PyProof.Rows
set_option maxRecDepth 100000
/-! ### == and != of lists and tuples, however deep -/
inductive D where
  | f (v : V) | l (xs : List D) | t (xs : List D)
mutual
def eqD : D → D → Bool
  | .f x, .f y => eqV x y
  | .l xs, .l ys => eqDs xs ys
  | .t xs, .t ys => eqDs xs ys
  | .f _, .l _ => false
  | .f _, .t _ => false
  | .l _, .f _ => false
  | .l _, .t _ => false
  | .t _, .f _ => false
  | .t _, .l _ => false
def eqDs : List D → List D → Bool
  | [], [] => true
  | x :: xs, y :: ys => eqD x y && eqDs xs ys
  | [], _ :: _ => false
  | _ :: _, [] => false
end
/-- the value x reads as d, at most n deep -/
def Deep (K : PySem.W.Frag) (H : Hp) : Nat → V → D → Prop
  | 0, v, d => d = .f v ∧ flatV v = true
  | n + 1, v, d => (d = .f v ∧ flatV v = true) ∨ (∃ a vs ds, v = .ref a ∧ d = .l ds ∧ SqL K H a vs ∧ Paired (Deep K H n) vs ds) ∨ (∃ a vs ds, v = .ref a ∧ d = .t ds ∧ SqT K H a vs ∧ Paired (Deep K H n) vs ds)
theorem eqDs_len : ∀ {xs ys : List D}, xs.length ≠ ys.length → eqDs xs ys = false
  | [], [], h => absurd rfl h
  | [], _ :: _, _ => by rw [eqDs]
  | _ :: _, [], _ => by rw [eqDs]
  | x :: xs, y :: ys, h => by
    rw [eqDs, eqDs_len (xs := xs) (ys := ys) (fun e => h (by simp [e])), Bool.and_false]
theorem eqV_refl {v : V} (h : flatV v = true) : eqV v v = true := by
  cases v <;> simp_all [flatV, eqV]
section
variable {X : Cx} {pins : List (Addr × Obj)} {σ : St} {H : Hp} {s : Shared}
theorem list_flat {A : Around} {l : Addr} {items : Array Value} {y : V} {v : Value} (hl : s.heap.IsList l items) (hu : A.units < cLine) (r : RelV y v) (f : flatV y = true) : SeqAt.EqAt A s (.ref l) v false := by
  cases y with
  | non => cases r; exact .list_none hl hu
  | bl b => cases r; exact .list_bool b hl hu
  | int i => obtain ⟨t, rfl⟩ := r; exact .list_int i t hl hu
  | str x => obtain ⟨t, rfl⟩ := r; exact .list_str x t hl hu
  | _ => exact absurd (show false = true from f) Bool.false_ne_true
theorem flat_list {A : Around} {l : Addr} {items : Array Value} {y : V} {v : Value} (hl : s.heap.IsList l items) (hu : A.units < cLine) (r : RelV y v) (f : flatV y = true) : SeqAt.EqAt A s v (.ref l) false := by
  cases y with
  | non => cases r; exact .none_list hl hu
  | bl b => cases r; exact .bool_list b hl hu
  | int i => obtain ⟨t, rfl⟩ := r; exact .int_list i t hl hu
  | str x => obtain ⟨t, rfl⟩ := r; exact .str_list x t hl hu
  | _ => exact absurd (show false = true from f) Bool.false_ne_true
theorem tuple_flat {A : Around} {l : Addr} {items : Array Value} {y : V} {v : Value} (hl : s.heap.IsTuple l items) (hu : A.units < cLine) (r : RelV y v) (f : flatV y = true) : SeqAt.EqAt A s (.ref l) v false := by
  cases y with
  | non => cases r; exact .tuple_none hl hu
  | bl b => cases r; exact .tuple_bool b hl hu
  | int i => obtain ⟨t, rfl⟩ := r; exact .tuple_int i t hl hu
  | str x => obtain ⟨t, rfl⟩ := r; exact .tuple_str x t hl hu
  | _ => exact absurd (show false = true from f) Bool.false_ne_true
theorem flat_tuple {A : Around} {l : Addr} {items : Array Value} {y : V} {v : Value} (hl : s.heap.IsTuple l items) (hu : A.units < cLine) (r : RelV y v) (f : flatV y = true) : SeqAt.EqAt A s v (.ref l) false := by
  cases y with
  | non => cases r; exact .none_tuple hl hu
  | bl b => cases r; exact .bool_tuple b hl hu
  | int i => obtain ⟨t, rfl⟩ := r; exact .int_tuple i t hl hu
  | str x => obtain ⟨t, rfl⟩ := r; exact .str_tuple x t hl hu
  | _ => exact absurd (show false = true from f) Bool.false_ne_true
theorem apart_lt (I : Inv X pins σ H s) {a : Addr} {vs ws : List V} (h : SqL X.K H a vs) (k : SqT X.K H a ws) : False := by
  obtain ⟨_, _, p1, _⟩ := I.list h
  obtain ⟨_, _, p2, _⟩ := I.tuple k
  exact SeqAt.ne_of_list_tuple p1.isList p2 rfl
/-- what one value reads as is equal to itself -/
theorem deep_same (I : Inv X pins σ H s) : ∀ (n : Nat) (v : V) (d d' : D), Deep X.K H n v d → Deep X.K H n v d' → eqD d d' = true
  | 0, v, d, d', ⟨e, f⟩, ⟨e', _⟩ => by subst e; subst e'; rw [eqD]; exact eqV_refl f
  | n + 1, v, d, d', h, h' => by
    have pr : ∀ (vs : List V) (ds ds' : List D), Paired (Deep X.K H n) vs ds → Paired (Deep X.K H n) vs ds' → eqDs ds ds' = true := by
      intro vs
      induction vs with
      | nil => intro ds ds' p q; cases p; cases q; rw [eqDs]
      | cons v vs ih =>
        intro ds ds' p q
        cases p with
        | cons p1 p2 => cases q with
          | cons q1 q2 => rw [eqDs, deep_same I n v _ _ p1 q1, ih _ _ p2 q2]; rfl
    rcases h with ⟨e, f⟩ | ⟨a, vs, ds, rfl, rfl, ha, p⟩ | ⟨a, vs, ds, rfl, rfl, ha, p⟩
    · rcases h' with ⟨e', _⟩ | ⟨a', vs', ds', rfl, _⟩ | ⟨a', vs', ds', rfl, _⟩
      · subst e; subst e'; rw [eqD]; exact eqV_refl f
      · exact absurd (show false = true from f) Bool.false_ne_true
      · exact absurd (show false = true from f) Bool.false_ne_true
    · rcases h' with ⟨_, f⟩ | ⟨a', vs', ds', e, rfl, ha', p'⟩ | ⟨a', vs', ds', e, rfl, ha', p'⟩
      · exact absurd (show false = true from f) Bool.false_ne_true
      · cases e
        obtain rfl := I.list_inj ha ha'
        rw [eqD]; exact pr vs ds ds' p p'
      · cases e
        exact (apart_lt I ha ha').elim
    · rcases h' with ⟨_, f⟩ | ⟨a', vs', ds', e, rfl, ha', p'⟩ | ⟨a', vs', ds', e, rfl, ha', p'⟩
      · exact absurd (show false = true from f) Bool.false_ne_true
      · cases e
        exact (apart_lt I ha' ha).elim
      · cases e
        obtain rfl := I.tuple_inj ha ha'
        rw [eqD]; exact pr vs ds ds' p p'
/-- the answers of the items, in their order -/
def eqNth (ds ds' : List D) (j : Nat) : Bool := match ds[j]?, ds'[j]? with
  | some d, some d' => eqD d d'
  | _, _ => true
theorem all_eqNth : ∀ {ds ds' : List D}, ds.length = ds'.length → (List.range ds.length).all (eqNth ds ds') = eqDs ds ds'
  | [], [], _ => by rw [eqDs]; rfl
  | d :: ds, d' :: ds', h => by
    have ih := all_eqNth (ds := ds) (ds' := ds') (by simpa using h)
    rw [List.length_cons, List.range_succ_eq_map, List.all_cons, List.all_map, eqDs]
    have e : eqNth (d :: ds) (d' :: ds') 0 = eqD d d' := rfl
    have e2 : (eqNth (d :: ds) (d' :: ds') ∘ Nat.succ) = eqNth ds ds' := funext fun j => by simp [eqNth]
    rw [e, e2, ih]
theorem paired_at {α β : Type} {F : α → β → Prop} : ∀ {l : List α} {m : List β}, Paired F l m → ∀ {j : Nat} {x : α}, l[j]? = some x → ∃ y, m[j]? = some y ∧ F x y
  | _, _, .nil, j, x, h => by simp at h
  | _, _, .cons p r, 0, x, h => by simp at h; subst h; exact ⟨_, rfl, p⟩
  | _, _, .cons p r, j + 1, x, h => by simpa using paired_at r (j := j) (by simpa using h)
theorem deep_eqAt (I : Inv X pins σ H s) : ∀ (n : Nat) (A : Around) (x y : V) (dx dy : D) (u v : Value), A.units + n < cLine → Deep X.K H n x dx → Deep X.K H n y dy → RelV x u → RelV y v → SeqAt.EqAt A s u v (eqD dx dy)
  | 0, A, x, y, dx, dy, u, v, _, ⟨e, f⟩, ⟨e', f'⟩, ru, rv => by subst e; subst e'; rw [eqD]; exact eqAt_V ru rv f f'
  | n + 1, A, x, y, dx, dy, u, v, hu, hx, hy, ru, rv => by
    have hu0 : A.units < cLine := by omega
    have items : ∀ (vs ws : List V) (ds ds' : List D) (us us' : List Value), Paired (Deep X.K H n) vs ds → Paired (Deep X.K H n) ws ds' → Vals vs us → Vals ws us' →
        ∀ j (h1 : j < us.toArray.size) (h2 : j < us'.toArray.size), SeqAt.EqAt A.in1 s us.toArray[j] us'.toArray[j] (eqNth ds ds' j) := by
      intro vs ws ds ds' us us' p q r r' j h1 h2
      have l1 := r.length
      have l2 := r'.length
      simp only [List.size_toArray] at h1 h2
      have g1 : vs[j]? = some (vs[j]'(by omega)) := List.getElem?_eq_getElem _
      have g2 : ws[j]? = some (ws[j]'(by omega)) := List.getElem?_eq_getElem _
      obtain ⟨d, hd, fd⟩ := paired_at p g1
      obtain ⟨d', hd', fd'⟩ := paired_at q g2
      obtain ⟨c, hc, rc⟩ := r.get g1
      obtain ⟨c', hc', rc'⟩ := r'.get g2
      have e1 : us.toArray[j] = c := by rw [List.getElem?_eq_getElem h1] at hc; simpa using hc
      have e2 : us'.toArray[j] = c' := by rw [List.getElem?_eq_getElem h2] at hc'; simpa using hc'
      rw [e1, e2]
      unfold eqNth
      rw [hd, hd']
      exact deep_eqAt I n A.in1 _ _ d d' c c' (by rw [Around.in1_units]; omega) fd fd' rc rc'
    rcases hx with ⟨e, f⟩ | ⟨a, vs, ds, rfl, rfl, ha, p⟩ | ⟨a, vs, ds, rfl, rfl, ha, p⟩
    · subst e
      rcases hy with ⟨e', f'⟩ | ⟨b, ws, ds', rfl, rfl, hb, q⟩ | ⟨b, ws, ds', rfl, rfl, hb, q⟩
      · subst e'; rw [eqD]; exact eqAt_V ru rv f f'
      · cases rv
        obtain ⟨_, _, pl, _⟩ := I.list hb
        rw [eqD]; exact flat_list pl.isList hu0 ru f
      · cases rv
        obtain ⟨_, _, pl, _⟩ := I.tuple hb
        rw [eqD]; exact flat_tuple pl hu0 ru f
    · cases ru
      obtain ⟨us, r1, pl, _⟩ := I.list ha
      rcases hy with ⟨e', f'⟩ | ⟨b, ws, ds', rfl, rfl, hb, q⟩ | ⟨b, ws, ds', rfl, rfl, hb, q⟩
      · subst e'; rw [eqD]; exact list_flat pl.isList hu0 rv f'
      · cases rv
        by_cases eab : a = b
        · subst eab
          have := deep_same I (n + 1) (.ref a) (.l ds) (.l ds') (.inr (.inl ⟨a, vs, ds, rfl, rfl, ha, p⟩)) (.inr (.inl ⟨a, ws, ds', rfl, rfl, hb, q⟩))
          rw [this]
          exact SeqAt.EqAt.same _
        · obtain ⟨us', r2, pl2, _⟩ := I.list hb
          have l1 := r1.length
          have l2 := r2.length
          have l3 := p.length
          have l4 := q.length
          rw [eqD]
          by_cases el : ds.length = ds'.length
          · rw [← all_eqNth el, show ds.length = us.toArray.size by simp only [List.size_toArray]; omega]
            exact .of_refs eab (.lists pl.isList pl2.isList (by simp only [List.size_toArray]; omega) hu0 (items vs ws ds ds' us us' p q r1 r2))
          · rw [eqDs_len el]
            exact .of_refs eab (.lists_lengths pl.isList pl2.isList (by simp only [List.size_toArray, bne_iff_ne, ne_eq]; omega) hu0)
      · cases rv
        obtain ⟨_, _, pl2, _⟩ := I.tuple hb
        rw [eqD]; exact .list_tuple pl.isList pl2 hu0
    · cases ru
      obtain ⟨us, r1, pl, _⟩ := I.tuple ha
      rcases hy with ⟨e', f'⟩ | ⟨b, ws, ds', rfl, rfl, hb, q⟩ | ⟨b, ws, ds', rfl, rfl, hb, q⟩
      · subst e'; rw [eqD]; exact tuple_flat pl hu0 rv f'
      · cases rv
        obtain ⟨_, _, pl2, _⟩ := I.list hb
        rw [eqD]; exact .tuple_list pl pl2.isList hu0
      · cases rv
        by_cases eab : a = b
        · subst eab
          have := deep_same I (n + 1) (.ref a) (.t ds) (.t ds') (.inr (.inr ⟨a, vs, ds, rfl, rfl, ha, p⟩)) (.inr (.inr ⟨a, ws, ds', rfl, rfl, hb, q⟩))
          rw [this]
          exact SeqAt.EqAt.same _
        · obtain ⟨us', r2, pl2, _⟩ := I.tuple hb
          have l1 := r1.length
          have l2 := r2.length
          have l3 := p.length
          have l4 := q.length
          rw [eqD]
          have key : eqDs ds ds' = ((List.range (min us.toArray.size us'.toArray.size)).all (eqNth ds ds') && us.toArray.size == us'.toArray.size) := by
            by_cases el : ds.length = ds'.length
            · rw [← all_eqNth el, show min us.toArray.size us'.toArray.size = ds.length by simp only [List.size_toArray]; omega, show (us.toArray.size == us'.toArray.size) = true by simp only [List.size_toArray, beq_iff_eq]; omega, Bool.and_true]
            · rw [eqDs_len el, show (us.toArray.size == us'.toArray.size) = false by simp only [List.size_toArray, beq_eq_false_iff_ne, ne_eq]; omega, Bool.and_false]
          rw [key]
          exact .of_refs eab (.tuples pl pl2 hu0 (items vs ws ds ds' us us' p q r1 r2))
end
end L2


namespace L2
open PySem PySem.Spec PyProof.Rows
set_option maxRecDepth 100000
section
variable {X : Cx} {pins : List (Addr × Obj)} {σ : St} {H : Hp} {s : Shared}
theorem deep_items (I : Inv X pins σ H s) {n : Nat} {A : Around} (hu : A.units + n + 1 < cLine) {vs ws : List V} {ds ds' : List D} {us us' : List Value} (p : Paired (Deep X.K H n) vs ds) (q : Paired (Deep X.K H n) ws ds') (r : Vals vs us) (r' : Vals ws us') :
    ∀ j (h1 : j < us.toArray.size) (h2 : j < us'.toArray.size), SeqAt.EqAt A.in1 s us.toArray[j] us'.toArray[j] (eqNth ds ds' j) := by
  intro j h1 h2
  have l1 := r.length
  have l2 := r'.length
  simp only [List.size_toArray] at h1 h2
  have g1 : vs[j]? = some (vs[j]'(by omega)) := List.getElem?_eq_getElem _
  have g2 : ws[j]? = some (ws[j]'(by omega)) := List.getElem?_eq_getElem _
  obtain ⟨d, hd, fd⟩ := paired_at p g1
  obtain ⟨d', hd', fd'⟩ := paired_at q g2
  obtain ⟨c, hc, rc⟩ := r.get g1
  obtain ⟨c', hc', rc'⟩ := r'.get g2
  have e1 : us.toArray[j] = c := by rw [List.getElem?_eq_getElem h1] at hc; simpa using hc
  have e2 : us'.toArray[j] = c' := by rw [List.getElem?_eq_getElem h2] at hc'; simpa using hc'
  rw [e1, e2]
  unfold eqNth
  rw [hd, hd']
  exact deep_eqAt I n A.in1 _ _ d d' c c' (by rw [Around.in1_units]; omega) fd fd' rc rc'
/-- a == b, a != b of lists and tuples -/
def kEqD (K : PySem.W.Frag) (neg : Bool) : R2 := fun x y H Q => match x, y with
  | .ref a, .ref b => ∃ n dx dy, n ≤ 100 ∧ Deep K H n (.ref a) dx ∧ Deep K H n (.ref b) dy ∧ Q (.bl (neg ^^ eqD dx dy)) H
  | _, _ => False
theorem tuple_key {us us' : List Value} {ds ds' : List D} (l1 : ds.length = us.length) (l2 : ds'.length = us'.length) : ((List.range (min us.toArray.size us'.toArray.size)).all (eqNth ds ds') && us.toArray.size == us'.toArray.size) = eqDs ds ds' := by
  by_cases el : ds.length = ds'.length
  · rw [← all_eqNth el, show min us.toArray.size us'.toArray.size = ds.length by simp only [List.size_toArray]; omega, show (us.toArray.size == us'.toArray.size) = true by simp only [List.size_toArray, beq_iff_eq]; omega, Bool.and_true]
  · rw [eqDs_len el, show (us.toArray.size == us'.toArray.size) = false by simp only [List.size_toArray, beq_eq_false_iff_ne, ne_eq]; omega, Bool.and_false]
theorem neDE (K : PySem.W.Frag) (hK : X.K = K) {k : Nat} (hr : Room k X.A) : OpR X (compareOp .NotEq) (kEqD K true) := by
  subst hK
  intro pins s σ H x y v u Q I rx ry h
  unfold kEqD at h
  split at h
  · rename_i a b
    obtain ⟨n, dx, dy, hn, hx, hy, q⟩ := h
    cases rx
    cases ry
    simp only [Bool.true_bne] at q
    have hu := hr.un
    cases n with
    | zero => exact absurd (show false = true from hx.2) Bool.false_ne_true
    | succ n =>
      rcases hx with ⟨_, f⟩ | ⟨a', vs, ds, e, rfl, ha, p⟩ | ⟨a', vs, ds, e, rfl, ha, p⟩
      · exact absurd (show false = true from f) Bool.false_ne_true
      · cases e
        obtain ⟨us, r1, pl, _⟩ := I.list ha
        have l1 := r1.length
        have l3 := p.length
        rcases hy with ⟨_, f⟩ | ⟨b', ws, ds', e, rfl, hb, p'⟩ | ⟨b', ws, ds', e, rfl, hb, p'⟩
        · exact absurd (show false = true from f) Bool.false_ne_true
        · cases e
          obtain ⟨us', r2, pl2, _⟩ := I.list hb
          have l2 := r2.length
          have l4 := p'.length
          rw [eqD] at q
          by_cases el : ds.length = ds'.length
          · refine SeqAt.RcNeAt.lists (e := eqNth ds ds') pl.isList pl2.isList (by simp only [List.size_toArray]; omega) (by omega) (deep_items I (by omega) p p' r1 r2) _ _ _ _ ?_
            rw [show us.toArray.size = ds.length by simp only [List.size_toArray]; omega, all_eqNth el]
            exact ⟨.bl _, H, I, rfl, q⟩
          · refine SeqAt.RcNeAt.lists_lengths pl.isList pl2.isList (by simp only [List.size_toArray, bne_iff_ne, ne_eq]; omega) (by omega) _ _ _ _ ?_
            rw [eqDs_len el] at q
            exact ⟨.bl _, H, I, rfl, q⟩
        · cases e
          obtain ⟨us', r2, pl2, _⟩ := I.tuple hb
          rw [eqD] at q
          exact SeqAt.RcNeAt.list_tuple pl.isList pl2 (by omega) _ _ _ _ ⟨.bl _, H, I, rfl, q⟩
      · cases e
        obtain ⟨us, r1, pl, _⟩ := I.tuple ha
        have l1 := r1.length
        have l3 := p.length
        rcases hy with ⟨_, f⟩ | ⟨b', ws, ds', e, rfl, hb, p'⟩ | ⟨b', ws, ds', e, rfl, hb, p'⟩
        · exact absurd (show false = true from f) Bool.false_ne_true
        · cases e
          obtain ⟨us', r2, pl2, _⟩ := I.list hb
          rw [eqD] at q
          exact SeqAt.RcNeAt.tuple_list pl pl2.isList (by omega) _ _ _ _ ⟨.bl _, H, I, rfl, q⟩
        · cases e
          obtain ⟨us', r2, pl2, _⟩ := I.tuple hb
          have l2 := r2.length
          have l4 := p'.length
          rw [eqD] at q
          refine SeqAt.RcNeAt.tuples (e := eqNth ds ds') pl pl2 (by omega) (deep_items I (by omega) p p' r1 r2) _ _ _ _ ?_
          rw [tuple_key (by omega) (by omega)]
          exact ⟨.bl _, H, I, rfl, q⟩
  · exact h.elim
end
end L2


namespace L2
open PySem PySem.Spec PyProof.Rows
set_option maxRecDepth 100000
section
variable {X : Cx}
/-- xs != [] -/
def kNeNil (K : PySem.W.Frag) : R2 := fun x y H Q => match x, y with
  | .ref a, .ref b => ∃ xs, SqL K H a xs ∧ SqL K H b [] ∧ Q (.bl (!decide (xs = []))) H
  | _, _ => False
theorem a_kNeNil {K : PySem.W.Frag} {a b : Addr} {H : Hp} {Q : VK} : kNeNil K (.ref a) (.ref b) H Q = ∃ xs, SqL K H a xs ∧ SqL K H b [] ∧ Q (.bl (!decide (xs = []))) H := rfl
theorem a_kEqD {K : PySem.W.Frag} {n : Bool} {a b : Addr} {H : Hp} {Q : VK} : kEqD K n (.ref a) (.ref b) H Q = ∃ k dx dy, k ≤ 100 ∧ Deep K H k (.ref a) dx ∧ Deep K H k (.ref b) dy ∧ Q (.bl (n ^^ eqD dx dy)) H := rfl
/-- any of a list of truths -/
def kAny (K : PySem.W.Frag) : List V → Hp → VK → Prop := fun xs H Q => match xs with
  | [.ref p] => ∃ bs : List Bool, SqL K H p (bs.map V.bl) ∧ Q (.bl (bs.any id)) H
  | _ => False
theorem a_kAny {K : PySem.W.Frag} {p : Addr} {H : Hp} {Q : VK} : kAny K [.ref p] H Q = ∃ bs : List Bool, SqL K H p (bs.map V.bl) ∧ Q (.bl (bs.any id)) H := rfl
/-- ints in their order -/
def insI (x : Int) : List Int → List Int
  | [] => [x]
  | y :: r => if x ≤ y then x :: y :: r else y :: insI x r
def srtI (l : List Int) : List Int := l.foldr insI []
def kSorted (K : PySem.W.Frag) : List V → Hp → VK → Prop := fun xs H Q => match xs with
  | [.ref p] => ∃ ns : List Int, SqL K H p (ns.map V.int) ∧ ns.length < 64 ∧ ∀ q, H q = none → Q (.ref q) (upd H q (.lst ((srtI ns).map V.int)))
  | _ => False
theorem a_kSorted {K : PySem.W.Frag} {p : Addr} {H : Hp} {Q : VK} : kSorted K [.ref p] H Q = ∃ ns : List Int, SqL K H p (ns.map V.int) ∧ ns.length < 64 ∧ ∀ q, H q = none → Q (.ref q) (upd H q (.lst ((srtI ns).map V.int))) := rfl
end
end L2


namespace L2
open PySem PySem.Spec PyProof.Rows
set_option maxRecDepth 100000
section
variable {X : Cx}
/-- list(range(e)) -/
def cListRng (te : TE) : TE := fun σ H Q => te σ H fun x H1 => match x with
  | .int j => -(2 ^ 62) ≤ j ∧ j ≤ 10000 ∧ ∀ p, H1 p = none → Q (.ref p) (upd H1 p (.lst ((List.range j.toNat).map fun (i : Nat) => V.int i)))
  | _ => False
theorem a_cListRng {te : TE} {σ : St} {H : Hp} {Q : VK} : cListRng te σ H Q = te σ H fun x H1 => match x with
  | .int j => -(2 ^ 62) ≤ j ∧ j ≤ 10000 ∧ ∀ p, H1 p = none → Q (.ref p) (upd H1 p (.lst ((List.range j.toNat).map fun (i : Nat) => V.int i)))
  | _ => False := rfl
end
/-! ### lists of texts, of tuples of flat things: how they read and when they are equal -/
theorem deep_flat {K : PySem.W.Frag} {H : Hp} {v : V} (n : Nat) (f : flatV v = true) : Deep K H n v (.f v) := by
  cases n with
  | zero => exact ⟨rfl, f⟩
  | succ n => exact .inl ⟨rfl, f⟩
abbrev tx (l : List Nat) : V := V.str (st l)
end L2


namespace L2
open PySem PySem.Spec PyProof.Rows
section
variable {K : PySem.W.Frag} {g : TG} {tc : TT} {te : TE} {σc : St} {D : Addr} {Q : VK} {H : Hp}
end
end L2


namespace L2
open PySem PySem.Spec PyProof.Rows
section
variable {X : Cx}
/-- xs * n -/
def kMulL : R2 := fun x y H Q => match x, y with
  | .ref l, .int k => ∃ xs, H l = some (.lst xs) ∧ 0 ≤ k ∧ k ≤ 10000 ∧ xs.length ≤ 100 ∧ ∀ p, H p = none → Q (.ref p) (upd H p (.lst (List.replicate k.toNat xs).flatten))
  | _, _ => False
theorem a_kMulL {l : Addr} {k : Int} {H : Hp} {Q : VK} : kMulL (.ref l) (.int k) H Q = ∃ xs, H l = some (.lst xs) ∧ 0 ≤ k ∧ k ≤ 10000 ∧ xs.length ≤ 100 ∧ ∀ p, H p = none → Q (.ref p) (upd H p (.lst (List.replicate k.toNat xs).flatten)) := rfl
end
theorem a_gSub {to ti : TE} {t : TSet} {v : V} {σ : St} {H : Hp} {Q : St → Hp → Prop} : gSub to ti t v σ H Q = to σ H fun o H1 => ti σ H1 fun i H2 => t o i v H2 fun H3 => Q σ H3 := rfl
theorem a_rSetL {p : Addr} {k : Int} {v : V} {H : Hp} {Q : Hp → Prop} : rSetL (.ref p) (.int k) v H Q = ∃ xs j, H p = some (.lst xs) ∧ ixN xs.length k = some j ∧ Q (upd H p (.lst (xs.set j v))) := by
  refine propext ⟨?_, ?_⟩
  · rintro ⟨p', xs, k', j, e1, e2, h⟩
    cases e1
    cases e2
    exact ⟨xs, j, h⟩
  · rintro ⟨xs, j, h⟩
    exact ⟨p, xs, k, j, rfl, rfl, h⟩
end L2


set_option linter.all false
namespace L2
open PySem PySem.Spec PyProof.Rows
/-! ### a text begins with another -/
section
variable {X : Cx} {o e : Expr} {to te : TE} {apos cpos : Pos}
def cStarts (to te : TE) : TE := fun σ H Q => to σ H fun x H1 => match x with
  | .str a => te σ H1 fun y H2 => match y with
    | .str b => Q (.bl (decide (b.cps.toList <+: a.cps.toList))) H2
    | _ => False
  | _ => False
theorem a_cStarts {σ : St} {H : Hp} {Q : VK} : cStarts to te σ H Q = to σ H fun x H1 => match x with
  | .str a => te σ H1 fun y H2 => match y with
    | .str b => Q (.bl (decide (b.cps.toList <+: a.cps.toList))) H2
    | _ => False
  | _ => False := rfl
end
/-! ### a range downwards -/
def Itd (lo : Int) (n : Nat) : It := ⟨fun i _ => i < n, fun i H x H' => H' = H ∧ x = .int (lo - i), fun i _ => n ≤ i⟩
section
variable {X : Cx} {tg a b c : Expr} {ta tb tc : TE} {pos p : Pos}
def cRng3 (ta tb tc : TE) : TI := fun σ H R => ta σ H fun x H1 => tb σ H1 fun y H2 => tc σ H2 fun z H3 => match x, y, z with
  | .int i, .int j, .int k => k = -1 ∧ (-1000000 ≤ i ∧ i ≤ 1000000 ∧ -1000000 ≤ j ∧ j ≤ 1000000) ∧ R (Itd i (i - j).toNat) H3
  | _, _, _ => False
theorem a_cRng3 {σ : St} {H : Hp} {R : It → Hp → Prop} : cRng3 ta tb tc σ H R = ta σ H fun x H1 => tb σ H1 fun y H2 => tc σ H2 fun z H3 => match x, y, z with
  | .int i, .int j, .int k => k = -1 ∧ (-1000000 ≤ i ∧ i ≤ 1000000 ∧ -1000000 ≤ j ∧ j ≤ 1000000) ∧ R (Itd i (i - j).toNat) H3
  | _, _, _ => False := rfl
end
section
variable {g : TG} {tb : TS} {D : Ends} {σ : St} {H : Hp}
end
/-! ### enumerate(list) -/
def Itel (K : PySem.W.Frag) (a : Addr) : It := ⟨fun i H => ∃ xs x, SqL K H a xs ∧ xs[i]? = some x, fun i H v H' => ∃ T x, v = .ref T ∧ H T = none ∧ (∀ xs, SqL K H a xs → xs[i]? = some x) ∧ H' = upd H T (.tup [.int i, x]), fun i H => ∃ xs, SqL K H a xs ∧ i = xs.length⟩
section
variable {X : Cx} {a : Expr} {ta : TE} {p pos : Pos}
def cEnumL (K : PySem.W.Frag) (te : TE) : TI := fun σ H R => te σ H fun x H1 => match x with
  | .ref l => (∃ xs, SqL K H1 l xs) ∧ R (Itel K l) H1
  | _ => False
theorem a_cEnumL {K : PySem.W.Frag} {σ : St} {H : Hp} {R : It → Hp → Prop} : cEnumL K ta σ H R = ta σ H fun x H1 => match x with
  | .ref l => (∃ xs, SqL K H1 l xs) ∧ R (Itel K l) H1
  | _ => False := rfl
end
end L2


set_option linter.all false
set_option maxRecDepth 100000
namespace L2
open PySem PySem.Spec PyProof.Rows
/-! ### list(reversed(e)) -/
theorem rev_no_len : typeLookup (.type "list_reverseiterator") "__len__" = pure none := by rw [typeLookup_type, builtinLookup_eq_fast]; kernel_rfl
theorem rev_hint_slot : typeLookup (.type "list_reverseiterator") "__length_hint__" = pure (some (.builtin "list_reverseiterator.__length_hint__")) := by rw [typeLookup_type, builtinLookup_eq_fast]; kernel_rfl
section
variable {prog : Program} {w : World} {A : Around} {E : Value → Shared → Prop} {s : Shared}
theorem rev_hint {I l : Addr} {i : Int} {Q : Bool → Shared → Prop} (hit : s.heap.IsRevIter I l i) (h : Q false s) : wpAny (model prog w) A (Builtin.List.listLengthHint (.ref I)) Q E s := by
  unfold Builtin.List.listLengthHint
  apply wpAny_bind
  apply wpAny_specialOf hit.typeIs rev_no_len
  show wpAny _ A (specialOf (Value.ref I) (Str.ofString "__length_hint__") >>= _) _ _ _
  apply wpAny_bind
  apply wpAny_specialOf hit.typeIs rev_hint_slot
  generalize hid : ("list_reverseiterator.__length_hint__" : String) = id0
  wp_delta
  rw [show splitId id0 = some ("list_reverseiterator", "__length_hint__") from by subst hid; decide +kernel]
  subst hid
  apply wpAny_bind
  apply wpAny_isInstance (T := "list_reverseiterator") (b := true) hit.typeIs (by rw [isSubtype_type]; kernel_rfl)
  refine wpAny_ite_split (fun z => absurd z (by decide)) fun _ => ?_
  refine wpAny_ite_split (fun _ => ?_) fun z => absurd (by decide +kernel) z
  refine wpAny_ite_split (fun z => absurd z (by decide)) fun _ => ?_
  exact wpAny_pure h
theorem list_of_rev {I l : Addr} {items : Array Value} {Q : Value → Shared → Prop} (hh : A.handled = none) (hne : l ≠ I) (hit : s.heap.IsRevIter I l ((items.size : Int) - 1)) (hl : s.heap.IsList l items) (hz : items.size ≤ sizeLine)
    (hQ : ∀ h' tk acc c, (∀ b o, b ≠ I → s.heap.get? b = some o → h'.get? b = some o) → h'.get? s.heap.objs.size = some { cls := .type "list", dict := none, data := .seq acc c, slots := #[] } →
      ItemsOf (fun i v => items[items.size - 1 - i]? = some v) acc items.size → Q (.ref s.heap.objs.size) { s with heap := h', toks := tk }) :
    wpAny (model prog w) A (call (.type "list") [.ref I]) Q E s := by
  have W := (Walks.listRev (prog := prog) (w := w) (A := A.in1.in1) (by simp [hh]) I l hne items).toS
  have hI : I < s.heap.objs.size := by
    obtain ⟨o, ho, _⟩ := hit
    exact Heap.lt_size ho
  have hL : l < s.heap.objs.size := by
    obtain ⟨o, ho, _⟩ := hl
    exact Heap.lt_size ho
  apply callType_codes (Q₁ := fun obj s₁ => obj = .ref s.heap.objs.size ∧ s₁ = { s with heap := s.heap.push { cls := .type "list", data := .seq #[] } }) PySem.F.called_list (PySem.F.typeCall_list_1 _) PySem.F.entry_list_init (code_list_new _ ⟨rfl, rfl⟩)
  rintro obj s₁ ⟨rfl, rfl⟩
  have hS : (s.heap.push { cls := .type "list", data := .seq #[] }).get? s.heap.objs.size = some { cls := .type "list", data := .seq #[] } := Heap.get?_push_size _ rfl
  refine ⟨⟨_, hS, rfl⟩, PySem.F.args_list_init_2 _ _, ?_⟩
  change wpAny _ _ (Builtin.List.listItems (.ref s.heap.objs.size) >>= _) _ _ _
  apply wpAny_bind
  unfold Builtin.List.listItems
  apply wpAny_bind
  apply wpAny_seqItems hS rfl
  apply wpAny_pure
  change wpAny _ _ (updateSeq s.heap.objs.size (fun _ => #[]) >>= _) _ _ _
  apply wpAny_bind
  apply wpAny_updateSeq hS rfl
  have o2 := Heap.get?_update_self (Obj.mapSeq fun _ => (#[] : Array Value)) hS rfl
  have k2 : ∀ b o, s.heap.get? b = some o → ((s.heap.push { cls := .type "list", data := .seq #[] }).update s.heap.objs.size (Obj.mapSeq fun _ => (#[] : Array Value))).get? b = some o := fun b o e => by
    rw [Heap.get?_update_other _ _ (Nat.ne_of_gt (Heap.lt_size e))]
    exact Heap.get?_push_of_some _ e
  generalize (s.heap.push { cls := .type "list", data := .seq #[] }).update s.heap.objs.size (Obj.mapSeq fun _ => (#[] : Array Value)) = H2 at o2 k2 ⊢
  apply wpAny_bind
  apply wpAny_letGo
  unfold Builtin.List.listExtendWith
  have it2 : H2.IsRevIter I l ((items.size : Int) - 1) := hit.at fun o e => k2 _ _ e
  have l2 : H2.IsList l items := hl.at fun o e => k2 _ _ e
  apply wpAny_bind
  apply wpAny_typeOf (T := "list_reverseiterator") it2.typeIs
  refine wpAny_ite_split (fun z => ?_) fun _ => ?_
  · exfalso
    have n1 : (s.heap.objs.size == I) = false := by rw [beq_eq_false_iff_ne]; exact Nat.ne_of_gt hI
    have n2 : Builtin.List.listSameRef (.ref s.heap.objs.size) (.ref I) = false := n1
    rw [n2] at z
    exact absurd z (by decide)
  apply wpAny_bind
  apply wpAny_pyIter_revIter it2
  apply wpAny_bind
  apply wpAny_holding
  apply rev_hint it2
  refine wpAny_ite_split (fun z => absurd z (by decide +kernel)) fun _ => ?_
  apply wpAny_pure
  refine ⟨plainId_quiet PySem.F.plain_extend_loop _, ?_⟩
  refine codeAny_extend_loopS W hz _ ?_ _ items.size 0 _ _ _ rfl (Nat.zero_le _) ⟨Nat.zero_le _, ?_, l2⟩ o2 (ItemsOf.nil _) fun s' acc c hm hS' hacc => ?_
  · intro z
    rcases List.mem_cons.mp z with z | z
    · exact Nat.ne_of_gt hI z
    · exact Nat.ne_of_gt hL (List.mem_singleton.mp z)
  · simpa using it2
  · rw [Moved.eq_with hm]
    refine ⟨rfl, hQ s'.heap s'.toks acc c (fun b o hb e => hm.heap b o (fun z => ?_) (k2 b o e)) hS' hacc⟩
    rcases List.mem_cons.mp z with z | z
    · exact Nat.ne_of_lt (Heap.lt_size e) z
    · exact hb (List.mem_singleton.mp z)
end
section
variable {X : Cx}
def cListRev (K : PySem.W.Frag) (te : TE) : TE := fun σ H Q => te σ H fun x H1 => match x with
  | .ref a => ∃ ys, SqL K H1 a ys ∧ ∀ p, H1 p = none → Q (.ref p) (upd H1 p (.lst ys.reverse))
  | _ => False
theorem vals_rev {ys : List V} {us : List Value} (r : Vals ys us) {acc : Array Value} (h : ItemsOf (fun i v => us.toArray[us.toArray.size - 1 - i]? = some v) acc us.toArray.size) : Vals ys.reverse acc.toList := by
  obtain ⟨hs, hi⟩ := h
  have e : acc.toList = us.reverse := by
    apply List.ext_getElem?
    intro i
    by_cases hlt : i < us.length
    · have h1 : i < acc.size := by rw [hs]; simpa using hlt
      have := hi i acc[i] (by simp [h1])
      rw [List.getElem?_reverse hlt]
      simp only [List.size_toArray, List.getElem?_toArray] at this
      rw [this]
      simp [h1]
    · rw [List.getElem?_eq_none (l := acc.toList) (by simp [hs]; omega), List.getElem?_eq_none (by rw [List.length_reverse]; omega)]
  rw [e]
  clear e hi hs
  have app : ∀ {a b : List V} {c d : List Value}, Vals a c → Vals b d → Vals (a ++ b) (c ++ d) := fun p q => by
    induction p with
    | nil => exact q
    | cons r _ ih => exact .cons r ih
  induction r with
  | nil => exact .nil
  | cons r _ ih =>
    rw [List.reverse_cons, List.reverse_cons]
    exact app ih (.cons r .nil)
theorem qe_listrev {K : PySem.W.Frag} (hK : X.K = K) {e : Expr} {te : TE} {p p2 pos pos2 : Pos} (hc : X.calm = true) (hg : Gl X "list") (hm : X.mg "list" = none) (hg2 : Gl X "reversed") (hm2 : X.mg "reversed" = none) (he : PE X e te)
    (hs : starEach [e] X.env = [(false, eval e X.env)] := by rfl)
    (hs2 : starEach [Expr.Call (.Name "reversed" p2) [e] [] pos2] X.env = [(false, eval (Expr.Call (.Name "reversed" p2) [e] [] pos2) X.env)] := by rfl) :
    PE X (.Call (.Name "list" p) [.Call (.Name "reversed" p2) [e] [] pos2] [] pos) (cListRev K te) := by
  subst hK
  intro pins s σ H Q I h
  refine wpAny_Call_Name_kw (ld_blt I hg hm bb_list ?_ (by decide) (by decide))
  refine PyProof.Rows.callWith_type1 ?_ hs2 rfl
  rw [hs2]
  show wpAny _ _ (spliced [(false, eval (Expr.Call (.Name "reversed" p2) [e] [] pos2) X.env)]) _ _ s
  refine Calls.spliced_cons ?_
  refine wpAny_Call_Name_kw (ld_blt I hg2 hm2 boot_reversed ?_ (by decide) (by decide))
  refine PyProof.Rows.callWith_type1 ?_ hs rfl
  rw [hs]
  show wpAny _ _ (spliced [(false, eval e X.env)]) _ _ s
  refine Calls.spliced_cons (thn (he pins s σ H _ I h) fun u s1 ⟨x, H1, I1, r1, q1⟩ => Calls.spliced_nil ?_)
  match x, r1, q1 with
  | .ref a, r1, ⟨ys, hq, a3⟩ =>
    cases r1
    obtain ⟨its, rv, pl, hz⟩ := I1.list hq
    have hl := rv.length
    have ha : a < s1.heap.objs.size := by
      obtain ⟨o, ho, _⟩ := pl.isList
      exact Heap.lt_size ho
    refine call_reversed_list pl.isList (Calls.spliced_nil ?_)
    refine tokQ I1.tk (list_of_rev (I1.ok.hd hc) (Nat.ne_of_lt ha) ⟨_, Heap.get?_push_size _ rfl, rfl, rfl⟩ (pl.isList.push _) (by simp only [List.size_toArray]; omega) fun h' tk acc c old ho hi (htk : 0 < tk) => ?_)
    have old' : ∀ b o, s1.heap.get? b = some o → h'.get? b = some o := fun b o e => old b o (Nat.ne_of_lt (Heap.lt_size e)) (Heap.get?_push_of_some _ e)
    have fr : H1 (s1.heap.push (revObj a ((its.toArray.size : Int) - 1))).objs.size = none := I1.hok.fresh (by rw [Heap.size_push]; exact Nat.le_succ _)
    refine ⟨.ref _, _, I1.laid (o := .lst ys.reverse) (t' := tk) old' (by rw [Heap.size_push]; exact Nat.le_succ _) ⟨by rw [List.length_reverse]; exact hz, acc.toList, c, vals_rev rv hi, by simpa using ho⟩, rfl, a3 _ fr⟩
theorem a_cListRev {K : PySem.W.Frag} {te : TE} {σ : St} {H : Hp} {Q : VK} : cListRev K te σ H Q = te σ H fun x H1 => match x with
  | .ref a => ∃ ys, SqL K H1 a ys ∧ ∀ p, H1 p = none → Q (.ref p) (upd H1 p (.lst ys.reverse))
  | _ => False := rfl
end
end L2


set_option linter.all false
namespace L2
open PySem PySem.Spec PyProof.Rows PySem.Builtin PySem.Builtin.Str
/-! ### a text's beginning, however far it is asked -/
section
variable {X : Cx}
def kSlF : V → Option Int → Option Int → Hp → VK → Prop := fun x lo hi H Q => match x, lo, hi with
  | .str z, none, some j => z.cps.toList.length ≤ 100000 ∧ 0 ≤ j ∧ Q (.str (st (z.cps.toList.take j.toNat))) H
  | _, _, _ => False
theorem a_kSlF {l : List Nat} {j : Int} {H : Hp} {Q : VK} : kSlF (.str (st l)) none (some j) H Q = (l.length ≤ 100000 ∧ 0 ≤ j ∧ Q (.str (st (l.take j.toNat))) H) := rfl
end
end L2


set_option linter.all false
namespace L2
open PySem PySem.Spec PyProof.Rows
section
variable {X : Cx}
/-! ### name = [.. for ..]: the list is stored ahead of the comprehension's own names being let go -/
theorem ps_setC {i : Nat} {x : Str} {pos' spos : Pos} {elt tg iter : Expr} {ifs : List Expr} {scope : Scope} {pos : Pos} {wi : TI} {g : TG} {tc : TT} {te : TE} {nt : Nat} {fi : List Nat} {N' : List Str} (hN : X.N.Nodup) (hi0 : X.N[i]? = some x) (hx : Loc X.env.scope x) (hcalm : X.calm = true)
    (S : CScope scope) (cn : CNames X scope nt fi N') (gk : GK nt g) (hi : PI X tg iter wi)
    (hg : ∀ cl C s H ex, PG (cxC X scope cl N' C s H ex) tg g) (hc : ∀ cl C s H ex, PIf (cxC X scope cl N' C s H ex) ifs tc) (he : ∀ cl C s H ex, PE (cxC X scope cl N' C s H ex) elt te)
    (hsw : swapsWith (.ListComp elt [⟨tg, iter, ifs, 0⟩] scope pos) (some (.Name x pos')) spos.line X.env = pure true := by rfl)
    (hs : ∀ x, foldedSetIterable iter X.env x = pure x := by intro _; rfl) (hf : X.fn x = true ∨ X.env.scope.names.lookup x = some .local := by first | exact .inl rfl | exact .inr rfl | assumption) :
    PS X (.Assign [.Name x pos'] (.ListComp elt [⟨tg, iter, ifs, 0⟩] scope pos) spos) (tAsg (cComp nt fi wi g tc te) (gName i)) := by
  intro pins s σ H D I h
  have hfr : ∀ y ∈ scope.names, y.2 = .free → ∃ c, X.env.cells.lookup y.1 = some c := fun y hy e => I.ok.has y.1 (cn.fre y hy e)
  rw [exec_Assign_Name_used _ _ _ _ hsw]
  refine wpAny_bind (wpAny_standAt (wpAny_bind ?_))
  change wpAny _ X.A (do let _ ← comprehension (.ListComp elt [⟨tg, iter, ifs, 0⟩] scope pos) scope X.env _ (newList []) false (eval iter X.env) (some (assign (.Name x pos') X.env))) _ _ s
  refine wpAny_bind (thn (Q := fun _ s' => ∃ σ' H', Inv X pins σ' H' s' ∧ D.nx σ' H') ?_ fun _ s' q => wpAny_pure (wpAny_pure q))
  refine wpAny_comprehension_free (use := some (assign (.Name x pos') X.env)) rfl hs (closureFor_some hfr) S.kind S.loc (thn (hi pins s σ H _ I h) fun v s1 h1 => thn h1 fun itv s2 h2 => ?_)
  obtain ⟨it, fp, tn, J, H2, e, I2, T, st2, f2, hW⟩ := h2
  subst e
  have fD : H2 s2.heap.objs.size = none := I2.hok.fresh (Nat.le_refl _)
  obtain ⟨W, ⟨m0, w0⟩, turn⟩ := hW s2.heap.objs.size fD
  refine wpAny_newObj_type (wpAny_newFunctionEnv S.nocell (by intro y hy; simp at hy) (fun h₁ hns₁ hsb₁ => ?_) S.kind)
  have I3 : Inv X pins σ (upd H2 s2.heap.objs.size (.lst [])) { s2 with heap := s2.heap.push { cls := .type "list", dict := none, data := .seq ([] : List Value).toArray } } := I2.lnew (its := []) (t' := s2.toks) .nil (Nat.zero_le _)
  generalize hs3 : ({ s2 with heap := s2.heap.push { cls := .type "list", dict := none, data := .seq ([] : List Value).toArray } } : Shared) = s3 at I3 hns₁ hsb₁ ⊢
  have hsz : s3.heap.objs.size = s2.heap.objs.size + 1 := by rw [← hs3]; exact Heap.size_push ..
  have ob2 : ∀ b ∈ fp, ∃ o, s3.heap.get? b = some o := fun b hb => by
    obtain ⟨o, e, _⟩ := T.obj _ _ st2 b hb
    rw [← hs3]
    exact ⟨o, Heap.get?_push_of_some _ e⟩
  have f3 : ∀ b ∈ fp, FpOk X pins (upd H2 s2.heap.objs.size (.lst [])) b := fun b hb => by
    obtain ⟨o, e, _⟩ := T.obj _ _ st2 b hb
    refine ⟨?_, (f2 b hb).2⟩
    rw [upd_ne (Nat.ne_of_lt (Heap.lt_size e))]
    exact (f2 b hb).1
  have kp : ∀ b o, s3.heap.get? b = some o → h₁.get? b = some o := fun b o e => hsb₁.extBut b o (Nat.ne_of_lt (Heap.lt_size e)) (Heap.get?_push_of_some _ e)
  have st3 : tn 0 h₁ := T.keep _ _ _ st2 fun b _ o e => kp b o (by rw [← hs3]; exact Heap.get?_push_of_some _ e)
  have J4 : Inv (cxC X scope (clOf X.env.cells scope.names []) N' s3.heap.objs.size s3 (upd H2 s2.heap.objs.size (.lst [])) fp) (X.pn ++ pins) (compσ nt fi σ) (upd H2 s2.heap.objs.size (.lst [])) { s3 with heap := h₁, toks := s3.toks + ([] : List (Str × Value)).length } :=
    inv_comp I3 S cn f3 ob2 hns₁ kp I3.tk
  generalize hcl : clOf X.env.cells scope.names [] = cl at J4 ⊢
  generalize hH3 : upd H2 s2.heap.objs.size (.lst []) = H3 at J4 I3 f3 w0
  have stat : ∀ {H' : Hp}, (∀ b ∈ fp, H' b = none) → ∀ b ∈ fp, FpOk (cxC X scope cl N' s3.heap.objs.size s3 H3 fp) (X.pn ++ pins) H' b := fun {H'} hn b hb => by
    obtain ⟨g0, g1, g2, g3, g4, g5⟩ := f3 b hb
    have ok := J4.ok
    refine ⟨hn b hb, (ok.exf b hb).1, ok.exfs b hb, .inl hb, (ok.exf b hb).2, fun p hp => g5 p ?_⟩
    have hp' : p ∈ ([] : List (Addr × Obj)) ++ (X.pn ++ pins) := hp
    simpa using hp'
  have loop : ∀ s₃ : Shared, s₃ = { s3 with heap := h₁, toks := s3.toks + ([] : List (Str × Value)).length } →
      codeAny (model X.prog X.w) X.A (.compLoop (.ListComp elt [⟨tg, iter, ifs, 0⟩] scope pos) 0 (.ref it) (.ref s2.heap.objs.size) (compEnvC scope cl s3.heap.objs.size X.env))
        (compPost (model X.prog X.w) X.A X.xe (some (assign (.Name x pos') X.env)) (fun _ s' => ∃ σ' H', Inv X pins σ' H' s' ∧ D.nx σ' H') (.ref s2.heap.objs.size) s3.heap.objs.size) s₃ := by
    rintro s₃ rfl
    refine compLoop_any (fun n s' => ∃ i acc H', Inv (cxC X scope cl N' s3.heap.objs.size s3 H3 fp) (X.pn ++ pins) (compσ nt fi σ) H' s' ∧ tn i s'.heap ∧ (∀ b ∈ fp, H' b = none) ∧ W i n acc H') ?_ m0
      ⟨0, [], H3, J4, st3, fun b hb => (f3 b hb).1, w0⟩
    rintro n s5 ⟨ii, acc, H5, I5, st5, fr5, w5⟩
    rcases turn ii n acc H5 w5 with ⟨stop, qn⟩ | ⟨go, step⟩
    · refine thn (T.done (cxC X scope cl N' s3.heap.objs.size s3 H3 fp) rfl rfl rfl hcalm ii (X.pn ++ pins) s5 (compσ nt fi σ) H5 (fun _ _ => False) I5 (stat fr5) st5 stop) fun r s6 ⟨hr, I6⟩ => ?_
      subst hr
      obtain ⟨m6, hn6, _⟩ := I6.loc
      have I7 : Inv X pins σ H5 s6 := inv_back I3 f3 (Nat.le_refl _) I6 (Heap.SameBut.refl _ s6.heap)
      have fC : FpOk X pins H5 s3.heap.objs.size := I3.fpOk (Nat.le_refl _) I6.free
      obtain ⟨c0, c1, c2, c3, c4, c5⟩ := fC
      refine wpAny_assign_Name (store_ok2 I7 hN hi0 hx (v := .ref s2.heap.objs.size) rfl (fun s8 I8 ⟨a, sb, ha⟩ => ?_) hf)
      have na : a ≠ s3.heap.objs.size := by
        rcases ha with rfl | ha
        · exact c1.symm
        · exact c4 x a ha
      refine ⟨m6, hn6.sameBut sb na.symm, fun h' sb' => ⟨_, H5, ?_, qn⟩⟩
      exact I8.turned (t' := s8.toks) (fun b o nb e => (sb'.2 b nb).trans e) c0 c1 c3 c4 c5
    · refine thn (T.item (cxC X scope cl N' s3.heap.objs.size s3 H3 fp) rfl rfl rfl hcalm ii (X.pn ++ pins) s5 (compσ nt fi σ) H5 (fun _ _ => False) I5 (stat fr5) st5 go) fun r s6 ⟨u, hr, h6⟩ => ?_
      subst hr
      refine thn h6 fun _ s7 ⟨y, H7, I7, r7, y7, st7, fr7⟩ => ?_
      have I7' := I7.pinned (stat fr7) (T.obj _ _ st7)
      refine thn (hg _ _ _ _ _ _ s7 (compσ nt fi σ) H7 y u _ I7' r7 (gk _ _ _ _ (step y H7 y7))) fun _ s8 ⟨σ8, H8, I8, q8, l8, d8⟩ => ?_
      refine thn (hc _ _ _ _ _ _ s8 σ8 H8 _ I8 q8) fun b s9 ⟨H9, I9, q9⟩ => ?_
      have again : ∀ {s' : Shared} {H' : Hp} {m' : Nat} {acc' : List V}, Inv (cxC X scope cl N' s3.heap.objs.size s3 H3 fp) ((X.pn ++ pins) ++ pinsAt fp s7.heap) σ8 H' s' → m' < n → W (ii + 1) m' acc' H' →
          ∃ m, m < n ∧ ∃ i acc H', Inv (cxC X scope cl N' s3.heap.objs.size s3 H3 fp) (X.pn ++ pins) (compσ nt fi σ) H' s' ∧ tn i s'.heap ∧ (∀ b ∈ fp, H' b = none) ∧ W i m acc H' := fun {s' H' m' acc'} I' hm w' => by
        refine ⟨m', hm, ii + 1, acc', H', I'.unpinned.weak l8.symm (compσ_weak l8 d8), T.keep _ _ _ st7 fun b hb o e => (I'.pin (b, o) (List.mem_append_right _ (List.mem_append_right _ (mem_pinsAt hb e)))).1, fun b hb => ?_, w'⟩
        obtain ⟨o, e, d⟩ := T.obj _ _ st7 b hb
        exact (I'.pin (b, o) (List.mem_append_right _ (List.mem_append_right _ (mem_pinsAt hb e)))).2.1
      cases b with
      | false =>
        rw [if_neg Bool.false_ne_true] at q9 ⊢
        obtain ⟨m', hm, w'⟩ := q9
        exact again I9 hm w'
      | true =>
        rw [if_pos rfl] at q9 ⊢
        refine thn (he _ _ _ _ _ _ s9 σ8 H9 _ I9 q9) fun uv s10 ⟨v10, H10, I10, r10, hD, hlt, m', hm, w'⟩ => ?_
        refine thn (mt_append (X := cxC X scope cl N' s3.heap.objs.size s3 H3 fp) _ s10 σ8 H10 (.ref s2.heap.objs.size) [v10] (.ref s2.heap.objs.size) [uv] (fun _ H' => H' = upd H10 s2.heap.objs.size (.lst (acc ++ [v10]))) I10 rfl (.cons r10 .nil) ⟨_, acc, v10, rfl, rfl, hD, hlt, rfl⟩) fun _ s11 ⟨_, H11, I11, _, e11⟩ => ?_
        subst e11
        exact again I11 hm w'
  exact codeAny_compStart_list (loop _ rfl) (T.self _ 0 _ _ _ st3 (loop _ rfl))
end
end L2


set_option linter.all false
set_option maxRecDepth 100000
/-! own exceptions: raised, passed on, caught -/
namespace L2
open PySem PySem.Spec PyProof.Rows

/-- behind a call that raised: the exception at ea of the class at C flies over the callers' frames -/
structure Fly (P : Program) (w : World) (outer : List Env) (H H' : Hp) (h h' : Heap) (ea C : Addr) : Prop where
  un : Un (frs outer) [] H H' h h'
  hok : HOk P w H' h'
  new : ∀ b o, h.get? b = some o → b ≠ ea
  fr : H' ea = none
  fl : ∃ B a0, Heap.FlyingW B outer ea (.ref C) a0 h' ∧ ∀ b, ((∃ o, h.get? b = some o) ∧ b ∉ frs outer) ∨ H' b ≠ none → ∃ o, B.get? b = some o

/-- how an own exception lies behind a call -/
def XR (P : Program) (w : World) : CXT := fun outer H s E e s' =>
  ∃ ea C H', e = .ref ea ∧ 0 < s'.toks ∧ s'.os = s.os ∧ AllBare s'.gens ∧ Fly P w outer H H' s.heap s'.heap ea C ∧ E (.ref C) none H'

/-- the flight goes on: what matters is kept -/
theorem Fly.on {P : Program} {w : World} {outer : List Env} {H H' : Hp} {h h' h2 : Heap} {ea C : Addr} (F : Fly P w outer H H' h h' ea C) {B : Heap} {a0 : Value}
    (fl1 : Heap.FlyingW B outer ea (.ref C) a0 h') (inB : ∀ b, ((∃ o, h.get? b = some o) ∧ b ∉ frs outer) ∨ H' b ≠ none → ∃ o, B.get? b = some o)
    (ff : ∀ b ∈ frs outer, H b = none) (fl2 : Heap.FlyingW B outer ea (.ref C) a0 h2) (up : h'.UpToSlots h2) : Fly P w outer H H' h h2 ea C := by
  have same : ∀ b o, ((∃ o, h.get? b = some o) ∧ b ∉ frs outer) ∨ H' b ≠ none → h'.get? b = some o → h2.get? b = some o := fun b o hb e => by
    obtain ⟨o', eB⟩ := inB b hb
    have e1 := fl1.1 b o' eB
    rw [e] at e1; cases e1
    exact fl2.1 b o eB
  have sl : ∀ b o, b ∈ frs outer → h'.get? b = some o → ∃ sl, h2.get? b = some { o with slots := sl } := fun b o hb e => by
    obtain ⟨_, o', ho', hd⟩ := fl1.2.2.1.mem hb
    rw [e] at ho'; cases ho'
    exact up b o e hd
  refine ⟨⟨fun b o e n hf hx => same b o (.inl ⟨⟨o, e⟩, hf⟩) (F.un.keep b o e n hf hx), fun b o e n hf hx => ?_, F.un.free, fun b o e hx => ?_, F.un.tups, F.un.frzs, F.un.tbls⟩, fun a o e => ?_, F.new, F.fr, B, a0, fl2, inB⟩
  · obtain ⟨s1, e1⟩ := F.un.slot b o e n hf hx
    obtain ⟨s2, e2⟩ := sl b _ hf e1
    exact ⟨s2, e2⟩
  · obtain ⟨o1, e1⟩ := F.un.there b o e hx
    by_cases hf : b ∈ frs outer
    · obtain ⟨s2, e2⟩ := sl b _ hf e1
      exact ⟨_, e2⟩
    · exact ⟨o1, same b o1 (.inl ⟨⟨o, e⟩, hf⟩) e1⟩
  · refine (F.hok a o e).stay (fun b u hb q => same b u (.inr ?_) q) (fun _ q => q) fun _ _ q => q
    rcases hb with rfl | hb
    · rw [e]; simp
    · rw [hb]; simp

section
variable {X : Cx} {pins : List (Addr × Obj)} {σ : St} {H : Hp} {s : Shared}
theorem frs_cons {env : Env} {l : List Env} {L : Addr} (hf : env.frame = some L) : frs (env :: l) = L :: frs l := by unfold frs; rw [List.filterMap_cons, hf]
/-- an exception leaves the frame of X -/
theorem Inv.leave (I : Inv X pins σ H s) (hex : X.ex = []) {B h2 : Heap} {ea C : Addr} {a0 : Value} (hB : B.StaysIn s.heap) (up : s.heap.UpToSlots h2)
    (inB : ∀ b, ((∃ o, X.s₀.heap.get? b = some o) ∧ b ∉ frs X.outer) ∨ H b ≠ none → ∃ o, B.get? b = some o) (fl : Heap.FlyingW B X.outer ea (.ref C) a0 h2)
    (new : ∀ b o, X.s₀.heap.get? b = some o → b ≠ ea) (fr : H ea = none) : Fly X.prog X.w X.outer X.H₀ H X.s₀.heap h2 ea C := by
  have nx : ∀ b : Addr, b ∉ X.ex := fun b z => by rw [hex] at z; cases z
  have same : ∀ b o, ((∃ o, X.s₀.heap.get? b = some o) ∧ b ∉ frs X.outer) ∨ H b ≠ none → s.heap.get? b = some o → h2.get? b = some o := fun b o hb e => by
    obtain ⟨o', eB⟩ := inB b hb
    have e1 := hB b o' eB
    rw [e] at e1; cases e1
    exact fl.1 b o eB
  have sl : ∀ b o, b ∈ frs X.outer → s.heap.get? b = some o → ∃ sl, h2.get? b = some { o with slots := sl } := fun b o hb e => by
    obtain ⟨_, o', ho', hd⟩ := I.funs.mem hb
    rw [e] at ho'; cases ho'
    exact up b o e hd
  refine ⟨⟨fun b o e n hf _ => same b o (.inl ⟨⟨o, e⟩, hf⟩) (I.base.keep b o e n hf (nx b)), fun b o e n hf _ => ?_, fun b o e n _ => I.base.free b o e n (nx b), fun b o e _ => ?_, I.base.tups, I.base.frzs, I.base.tbls⟩, fun a o e => ?_, new, fr, B, a0, fl, inB⟩
  · obtain ⟨s1, e1⟩ := I.base.slot b o e n hf (nx b)
    obtain ⟨s2, e2⟩ := sl b _ hf e1
    exact ⟨s2, e2⟩
  · obtain ⟨o1, e1⟩ := I.base.there b o e (nx b)
    by_cases hf : b ∈ frs X.outer
    · obtain ⟨s2, e2⟩ := sl b _ hf e1
      exact ⟨_, e2⟩
    · exact ⟨o1, same b o1 (.inl ⟨⟨o, e⟩, hf⟩) e1⟩
  · refine (I.hok a o e).stay (fun b u hb q => same b u (.inr ?_) q) (fun _ q => q) fun _ _ q => q
    rcases hb with rfl | hb
    · rw [e]; simp
    · rw [hb]; simp
end

/-- what is asked of a body's context for raising there -/
def Raises (X : Cx) (E : XK) : Prop := ∀ (pins : List (Addr × Obj)) (σ : St) (H : Hp) (s : Shared) (h' : Heap) (e C : Addr) (vs : List Value),
  Inv X pins σ H s → Heap.MadeExcOf s.heap h' e (.ref C) vs → E (.ref C) none H → X.xe (.ref e) { s with heap := h' }

section
variable {P : Program} {w : World} {K : PySem.W.Frag} {mg : Str → Option Value} {base : Heap} {N : List Str} {qual : Str} {scope : Scope} {f : Addr} {cd : Value} {A : Around} {outer : List Env} {s₀ : Shared} {H₀ : Hp} {E : XK}
theorem raises_fn : Raises (cxOf (XR P w) P w K mg base N qual scope f cd A outer s₀ H₀ E) E := by
  intro pins σ H s h' e C vs I M q
  let X : Cx := cxOf (XR P w) P w K mg base N qual scope f cd A outer s₀ H₀ E
  have I : Inv X pins σ H s := I
  have hf : X.env.frame = some X.env.locals := rfl
  have hst : X.stack = X.env :: X.outer := rfl
  show wpAny (model P w) X.A (leaving X.env (.ref e)) (fun _ s'' => XR P w outer H₀ s₀ E (.ref e) s'') (fun e' s'' => XR P w outer H₀ s₀ E e' s'') { s with heap := h' }
  have hin : ∀ env ∈ X.stack, ∀ a, env.frame = some a → a ∈ frs X.stack := fun env he a ha => List.mem_filterMap.mpr ⟨env, he, ha⟩
  refine wpAny_leaves_madeW (s := { s with heap := h' }) (base := PySem.W.hideAll s.heap (frs X.stack)) (h := s.heap) (env := X.env) (outer := X.outer) (L := X.env.locals) I.ok.frames hf (fun b o z => PySem.W.of_hideAll _ z) (PySem.W.funFrames_hide I.stack hin) M fun h2 t fl _ _ up => ?_
  have up1 : s.heap.UpToSlots h2 := (Heap.UpToSlots.of_keeps M.keeps).trans up
  have ne : ∀ b o, s.heap.get? b = some o → b ≠ e := fun b o q z => by rw [z, M.new] at q; cases q
  refine ⟨e, C, H, rfl, I.tk, I.os, I.bare, I.leave rfl (fun b o z => PySem.W.of_hideAll _ z) up1 (fun b hb => ?_) fl (fun b o z => ?_) ?_, q⟩
  · rcases hb with ⟨⟨o, eo⟩, nf⟩ | hb
    · obtain ⟨o1, e1⟩ := I.base.there b o eo (by intro z; cases z)
      refine ⟨o1, PySem.W.hideAll_get _ e1 ?_⟩
      rw [hst, frs_cons hf]
      intro z
      rcases List.mem_cons.mp z with z | z
      · exact absurd (Nat.lt_of_lt_of_le (Heap.lt_size eo) I.ok.above) (by rw [z]; exact Nat.lt_irrefl _)
      · exact nf z
    · cases eb : H b with
      | none => exact absurd eb hb
      | some u =>
        have lt := I.hok.lt eb
        cases eo : s.heap.get? b with
        | none =>
          exfalso
          have := (I.hok b u eb)
          cases u with
          | lst xs => obtain ⟨_, _, _, _, e⟩ := this; rw [eo] at e; cases e
          | tup xs => obtain ⟨_, _, _, _, e, _⟩ := this; rw [eo] at e; cases e
          | dK kvs => obtain ⟨_, _, _, _, o, _, _, e, _⟩ := this; rw [eo] at e; cases e
          | dT kvs => obtain ⟨_, _, _, _, o, _, _, e, _⟩ := this; rw [eo] at e; cases e
          | set S n => obtain ⟨o, _, _, _, e, _⟩ := this; rw [eo] at e; cases e
          | ins C dx fs => obtain ⟨_, _, _, e, _⟩ := this; rw [eo] at e; cases e
          | own y => obtain ⟨_, e⟩ := this; rw [eo] at e; cases e
          | xd fs => obtain ⟨_, ⟨_, _, _, e, _⟩, _⟩ := this; rw [eo] at e; cases e
          | rng lo hi => obtain ⟨_, _, _, e⟩ := this; rw [eo] at e; cases e
          | frz ob u => obtain ⟨e, _⟩ := this; rw [eo] at e; cases e
          | tbl ps => have e : s.heap.get? b = some _ := this; rw [eo] at e; cases e
          | met f y => have e : s.heap.get? b = some _ := this; rw [eo] at e; cases e
          | ext φ => obtain ⟨_, ⟨_, e⟩, _⟩ := this; rw [eo] at e; cases e
        | some o =>
          refine ⟨o, PySem.W.hideAll_get _ eo fun z => ?_⟩
          exact hb (I.stkFree b z)
  · obtain ⟨o1, e1⟩ := I.base.there b o z (by intro z; cases z)
    exact ne b o1 e1
  · cases eb : H e with
    | none => rfl
    | some u =>
      exfalso
      have := (I.hok e u eb)
      have eo := M.new
      cases u with
      | lst xs => obtain ⟨_, _, _, _, e⟩ := this; rw [eo] at e; cases e
      | tup xs => obtain ⟨_, _, _, _, e, _⟩ := this; rw [eo] at e; cases e
      | dK kvs => obtain ⟨_, _, _, _, o, _, _, e, _⟩ := this; rw [eo] at e; cases e
      | dT kvs => obtain ⟨_, _, _, _, o, _, _, e, _⟩ := this; rw [eo] at e; cases e
      | set S n => obtain ⟨o, _, _, _, e, _⟩ := this; rw [eo] at e; cases e
      | ins C dx fs => obtain ⟨_, _, _, e, _⟩ := this; rw [eo] at e; cases e
      | own y => obtain ⟨_, e⟩ := this; rw [eo] at e; cases e
      | xd fs => obtain ⟨_, ⟨_, _, _, e, _⟩, _⟩ := this; rw [eo] at e; cases e
      | rng lo hi => obtain ⟨_, _, _, e⟩ := this; rw [eo] at e; cases e
      | frz ob u => obtain ⟨e, _⟩ := this; rw [eo] at e; cases e
      | tbl ps => have e : s.heap.get? _ = some _ := this; rw [eo] at e; cases e
      | met f y => have e : s.heap.get? _ = some _ := this; rw [eo] at e; cases e
      | ext φ => obtain ⟨_, ⟨_, e⟩, _⟩ := this; rw [eo] at e; cases e

/-- an exception of a callee passes through a def -/
theorem passes_fn : Passes (XR P w) (cxOf (XR P w) P w K mg base N qual scope f cd A outer s₀ H₀ E) E := by
  intro pins σ H s e s' I h
  let X : Cx := cxOf (XR P w) P w K mg base N qual scope f cd A outer s₀ H₀ E
  have I : Inv X pins σ H s := I
  obtain ⟨ea, C, H', rfl, tk, os, bare, F, q⟩ := h
  have hf : X.env.frame = some X.env.locals := rfl
  have hst : X.stack = X.env :: X.outer := rfl
  show wpAny (model P w) X.A (leaving X.env (.ref ea)) (fun _ s'' => XR P w outer H₀ s₀ E (.ref ea) s'') (fun e' s'' => XR P w outer H₀ s₀ E e' s'') s'
  obtain ⟨B, a0, fl, inB⟩ := F.fl
  have I2 : Inv X pins σ H' s' := I.call' os F.un F.hok bare (fun b z => nomatch z) tk
  refine wpAny_leaves_onW (env := X.env) (outer := X.outer) (L := X.env.locals) I.ok.frames hf fl fun h2 fl2 up => ?_
  refine ⟨ea, C, H', rfl, tk, os.trans I.os, bare, I2.leave rfl fl.1 up (fun b hb => inB b ?_) fl2 (fun b o z => ?_) F.fr, q⟩
  · rcases hb with ⟨⟨o, eo⟩, nf⟩ | hb
    · obtain ⟨o1, e1⟩ := I.base.there b o eo (by intro z; cases z)
      refine .inl ⟨⟨o1, e1⟩, ?_⟩
      show b ∉ frs X.stack
      rw [hst, frs_cons hf]
      intro z
      rcases List.mem_cons.mp z with z | z
      · exact absurd (Nat.lt_of_lt_of_le (Heap.lt_size eo) I.ok.above) (by rw [z]; exact Nat.lt_irrefl _)
      · exact nf z
    · exact .inr hb
  · obtain ⟨o1, e1⟩ := I.base.there b o z (by intro z; cases z)
    exact F.new b o1 e1
end
end L2


set_option linter.all false
set_option maxRecDepth 100000
namespace L2
open PySem PySem.Spec PyProof.Rows

abbrev bmV : List Value := [.type "ValueError", .type "Exception", .type "BaseException", .type "object"]
/-- an own exception class at C, over ValueError -/
structure XCl (K : PySem.W.Frag) (C : Addr) : Prop where
  ex : PySem.W.excIn K C bmV "ValueError.__new__" = true
  ty : PySem.W.typeIn K (.ref C) = some (.type "type")
  mb : PySem.W.mroIn K C (.type "BaseException") = some true
  ga : PySem.W.findIn K (.ref C) "__getattribute__" = some (some (.builtin "BaseException.__getattribute__"))
  gh : PySem.W.findIn K (.ref C) "__getattr__" = some none
  ca : PySem.W.findIn K (.ref C) "__class__" = some (some (.builtin "object.__class__"))
  gt : PySem.W.specialIn K (.builtin "object.__class__") "__get__" = some (some (.builtin "getset_descriptor.__get__"))
  tk : PySem.W.takesIn K (.builtin "object.__class__") = some true
  mo : PySem.W.mroIn K C (.type "object") = some true

theorem XCl.own {K : PySem.W.Frag} {h : Heap} {C : Addr} (c : XCl K C) (X : K.In h) : OwnCls "x" C bmV "ValueError.__new__" (fun _ => some (.ref C)) h := by
  have q := c.ex
  refine ⟨rfl, ?_⟩
  revert q
  unfold PySem.W.excIn
  rcases hk : K.lookup C with _ | ⟨oc, odd, oda, osl⟩
  · intro q; cases q
  · intro q
    split at q
    case h_2 => cases q
    case h_1 dd cdt sl eo =>
      cases eo
      split at q
      case h_2 => cases q
      case h_1 C' bm a0 a1 a2 a3 n a5 em es =>
        simp only [Bool.and_eq_true, beq_iff_eq, Bool.not_eq_true'] at q
        obtain ⟨⟨⟨⟨⟨e1, e2⟩, e3⟩, e4⟩, e5⟩, e6⟩ := q
        subst e1 e2
        obtain ⟨f1, f2, f3, f4, f5, f6, f7, f8, f9, f10, f11⟩ := cdt
        dsimp only at em e3 e5 e6
        subst em e3
        have el : osl = #[a0, a1, a2, a3, some (.builtin "ValueError.__new__"), a5] := by
          rcases osl with ⟨l⟩
          simp only at es
          rw [es]
        subst el
        exact ⟨bm, f4, f1, f5, f2, f6, f7, f8, f9, f10, odd, a0, a1, a2, a3, a5, _, X _ _ hk, .of_isNs (PySem.W.isNs_of_in X e5), PySem.W.nsMap_none_of_in X e5 e6, PySem.W.tail_of_in X e4⟩

section
variable {X : Cx} {x : Str} {C : Addr} {np cpos pos : Pos} {e : Expr} {es : List Expr} {t : TA} {E : XK}
/-- raise C(e, ..) -/
def tRaise (C : Addr) (E : XK) (t : TA) : TS := fun _ σ H => t σ H fun vs H1 => vs.length ≤ sizeLine ∧ E (.ref C) none H1
theorem ps_raise (hc : X.calm = true) (hx : Raises X E) (hg : Gl X x) (hm : X.mg x = some (.ref C)) (c : XCl X.K C) (ha : PA X (e :: es) t) (hdb : (x == ("__debug__" : Str)) = false := by decide)
    (he : starEach (e :: es) X.env = (false, eval e X.env) :: starEach es X.env := by rfl) (hpl : (backTo cpos (starEach es X.env)).any (·.1) = false := by rfl) :
    PS X (.Raise (some (.Call (.Name x np) (e :: es) [] cpos)) none pos) (tRaise C E t) := by
  intro pins s σ H D I h
  obtain ⟨tl, N, nm, q, bs, hdct, sn, sub, ab, col, dd, k0, k1, k2, k3, k5, mN, hC, hN, hni, T⟩ := (c.own I.mod.kin).obj
  refine wpAny_Raise_call_subU (k5 := k5) (k3 := k3) (k2 := k2) (k1 := k1) (k0 := k0) (dd := dd) (col := col) (ab := ab) (sub := sub) (sn := sn) (hdct := hdct) (bs := bs) (q := q) (C := C) (nm := nm) (N := N) (bm := tl) (mN := mN) PySem.F.excBase_ValueError (by decide) PySem.F.excBase_ValueError (T.hasType PySem.F.excBase_ValueError.hasBase) (I.ok.hd hc) ?_ hni (ld_glob I hg hm ⟨rfl, ?_⟩ hdb)
  · rw [he]
    show (false || (backTo cpos (starEach es X.env)).any (·.1)) = false
    rw [hpl]; rfl
  · have hp := ha cpos pins s σ H _ I h
    rw [he] at hp ⊢
    refine Calls.evalArgs_plain (wpAny_mono hp (fun us s2 hq => ?_) fun _ _ y => y)
    obtain ⟨vs, H1, I1, r, z, q1⟩ := hq
    exact ⟨rfl, by rw [← r.length]; exact z, I1.bk _ _ hC, hN.keeps I1.bk, T.keeps I1.bk, fun h' ea M => hx pins σ H1 s2 h' ea C us I1 M q1⟩
end

section
variable {K : PySem.W.Frag} {M : Model} {h : Heap} {C D e : Addr}
theorem XCl.isType (d : XCl K D) (X : K.In h) : PySem.W.Looks M h (isType (.ref D)) true := by
  obtain ⟨tl, N, nm, q, bs, hdct, sn, sub, ab, col, dd, k0, k1, k2, k3, k5, mN, hC, hN, hni, T⟩ := (d.own X).obj
  intro A Q E s k z
  unfold PySem.isType loadHead
  exact wpAny_bind (wpAny_loadPart (k D _ hC) (wpAny_pure z))
theorem looks_excMatches (X : K.In h) (d : XCl K D) (m : PySem.W.mroIn K C (.ref D) = some true) (he : ∃ o, h.get? e = some o ∧ o.cls = .ref C) : PySem.W.Looks M h (excMatches (.ref e) (.ref D)) true := by
  obtain ⟨oe, e1, e2⟩ := he
  have T : PySem.W.Looks M h (typeOf (.ref e)) (.ref C) := e2 ▸ (PySem.W.Looks.ld e1).andThen .now
  have TD : PySem.W.Looks M h (typeOf (.ref D)) (.type "type") := PySem.W.looks_typeIn X d.ty
  have S := PySem.W.looks_mroIn (M := M) X m
  have SB := PySem.W.looks_mroIn (M := M) X d.mb
  have NT : PySem.W.Looks M h (isInstance (.ref D) (.type "tuple")) false := TD.andThen (.of_pure tc_notTuple)
  have IE : PySem.W.Looks M h (isExcClass (.ref D)) true := by
    intro A Q E s k z
    unfold isExcClass
    refine wpAny_bind (d.isType X A _ E s k ?_)
    exact SB A Q E s k z
  intro A Q E s k q
  unfold excMatches
  refine wpAny_bind (NT A _ E s k ?_)
  simp only [Bool.false_eq_true, if_false]
  refine wpAny_bind (wpAny_pure ?_)
  simp only [List.forIn_cons, List.forIn_nil]
  refine wpAny_bind (wpAny_bind (wpAny_bind (IE A _ E s k ?_)))
  simp only [Bool.not_true, Bool.false_eq_true, if_false]
  refine wpAny_pure (wpAny_pure (wpAny_bind (T A _ E s k ?_)))
  refine wpAny_bind (wpAny_bind (wpAny_bind (S A _ E s k ?_)))
  simp only [if_true]
  exact wpAny_pure (wpAny_pure (wpAny_pure q))
end

/-! ### try -/
/-- the context of a try's body -/
def Cx.tries (X : Cx) (W : St → XK) (p : List (Addr × Obj)) : Cx :=
  { X with pn := X.pn ++ p, xe := fun e s' => ∃ σ H s, Inv X p σ H s ∧ XR X.prog X.w X.stack H s (W σ) e s' }
/-- the context of a handler's suite -/
def Cx.hand (X : Cx) (ea : Addr) : Cx := { X with A := X.A.mark (some (.ref ea)), calm := false, xe := fun _ _ => False }
section
variable {X : Cx} {W : St → XK} {p pins : List (Addr × Obj)} {σ : St} {H : Hp} {s : Shared}
theorem Cx.Ok.tries (k : X.Ok) : (X.tries W p).Ok :=
  ⟨k.mod, k.kind, k.glob, k.blt, k.above, k.inj, k.has, k.cab, k.hd, k.frames, k.stk, k.exf, k.bs, k.bsz, k.noex, k.exfs, k.funs, k.frf⟩
theorem Cx.Ok.untries (k : (X.tries W p).Ok) : X.Ok :=
  ⟨k.mod, k.kind, k.glob, k.blt, k.above, k.inj, k.has, k.cab, k.hd, k.frames, k.stk, k.exf, k.bs, k.bsz, k.noex, k.exfs, k.funs, k.frf⟩
theorem Inv.tries (I : Inv X p σ H s) : Inv (X.tries W p) [] σ H s :=
  ⟨I.ok.tries, I.os, I.bare, I.base, I.loc, I.cell, I.free, I.freeC, fun q hq => I.pin q (by rw [List.append_nil] at hq; exact hq), I.hok, I.len, I.tk⟩
theorem Inv.untries (I : Inv (X.tries W p) pins σ H s) : Inv X p σ H s :=
  ⟨I.ok.untries, I.os, I.bare, I.base, I.loc, I.cell, I.free, I.freeC, fun q hq => I.pin q (List.mem_append_left _ hq), I.hok, I.len, I.tk⟩
theorem Cx.Ok.hand (k : X.Ok) (ea : Addr) : (X.hand ea).Ok :=
  ⟨k.mod, k.kind, k.glob, k.blt, k.above, k.inj, k.has, k.cab, fun z => (nomatch z), k.frames, k.stk, k.exf, k.bs, k.bsz, k.noex, k.exfs, k.funs, k.frf⟩
theorem Inv.hand (I : Inv X p σ H s) (ea : Addr) : Inv (X.hand ea) p σ H s :=
  ⟨I.ok.hand ea, I.os, I.bare, I.base, I.loc, I.cell, I.free, I.freeC, I.pin, I.hok, I.len, I.tk⟩
theorem Inv.unhand {ea : Addr} (k : X.Ok) (I : Inv (X.hand ea) p σ H s) : Inv X p σ H s :=
  ⟨k, I.os, I.bare, I.base, I.loc, I.cell, I.free, I.freeC, I.pin, I.hok, I.len, I.tk⟩
end

/-- an exception of a callee of a body that is tried -/
def PassesT (CX : CXT) (X : Cx) (W : St → XK) : Prop := ∀ (pins : List (Addr × Obj)) (σ : St) (H : Hp) (s : Shared) (e : Value) (s' : Shared), Inv X pins σ H s → CX X.stack H s (W σ) e s' → X.xe e s'
theorem passesT {X : Cx} {W : St → XK} {p : List (Addr × Obj)} : PassesT (XR X.prog X.w) (X.tries W p) W := fun _ σ H s _ _ I h => ⟨σ, H, s, I.untries, h⟩
section
variable {X : Cx} {CX : CXT} {k : Nat} {f : Addr} {fd : FuncData} {ps : List Str} {sp : Sp} {dvs : List V} {ds : List Value} {W : St → XK} {x : Str} {p pos : Pos} {e : Expr} {es : List Expr} {t : TA}
def tCallT (sp : Sp) (dvs : List V) (W : St → XK) (t : TA) : TE := fun σ H Q => t σ H fun vs H1 => sp (vs ++ dvs) H1 Q (W σ)
theorem run_fnT {pins : List (Addr × Obj)} {σ : St} {H : Hp} {s : Shared} {Q : VK} {us : List Value} {vs : List V} (F : FnOk X.prog X.w X.K X.mg X.base CX k f fd ps sp) (hr : Room k X.A) (hb : Binds X.K fd ps ds) (hd : Vals dvs ds) (hx : PassesT CX X W)
    (I : Inv X pins σ H s) (r : Vals vs us) (h : sp (vs ++ dvs) H Q (W σ)) : wpAny (model X.prog X.w) X.A (call (.ref f) us) (EP X pins σ Q) X.xe s := by
  have r2 : Vals (vs ++ dvs) (us ++ ds) := r.append hd
  have hl : ps.length = (us ++ ds).length := (F.len _ _ _ _ h).symm.trans r2.length
  have R := F.run X.A X.stack s H ⟨us, []⟩ (us ++ ds) (vs ++ dvs) Q (W σ) hr I.env0 (hb s us I.kIn hl.symm) r2 h
  refine wpAny_call (codeAny_mono R fun r s' hq => ?_)
  rcases r with er | fl
  · exact hx pins σ H s er s' I hq
  · cases fl with
    | ret u => exact I.after hq
    | _ => exact hq.elim
theorem pe_callT (F : FnOk X.prog X.w X.K X.mg X.base CX k f fd ps sp) (hr : Room k X.A) (hg : Gl X x) (hm : X.mg x = some (.ref f)) (hk : PySem.W.keepIn X.K (.ref f) = true) (hb : Binds X.K fd ps ds) (hd : Vals dvs ds) (hx : PassesT CX X W)
    (ha : PA X (e :: es) t) (hdb : (x == ("__debug__" : Str)) = false := by decide) (he : starEach (e :: es) X.env = (false, eval e X.env) :: starEach es X.env := by rfl) (hpl : (backTo pos (starEach es X.env)).any (·.1) = false := by rfl) :
    PE X (.Call (.Name x p) (e :: es) [] pos) (tCallT sp dvs W t) := fun pins s σ H Q I h =>
  wpAny_Call_Name_kw (ld_glob I hg hm (PySem.W.callWith_K (h₀ := X.base) I.ok.mod.kin hk (thn (ha pos pins s σ H _ I h) fun us s1 ⟨vs, H1, I1, r, q⟩ => ⟨I1.kIn, run_fnT F hr hb hd hx I1 r q⟩) he hpl) hdb)
end

/-- the exception at ea, of the class at C -/
def XO (C ea : Addr) : HO := .ext fun h => ∃ o, h.get? ea = some o ∧ o.cls = .ref C
theorem XO.ok {P : Program} {w : World} {H : Hp} {h : Heap} {C ea : Addr} (e : ∃ o, h.get? ea = some o ∧ o.cls = .ref C) : ObjOk P w H h ea (XO C ea) :=
  ⟨e, let ⟨o, e1, _⟩ := e; ⟨o, e1⟩, fun _ _ ⟨o, e1, e2⟩ k => ⟨o, k o e1, e2⟩⟩

/-- what a handler of the class at D does with an exception of the class at C -/
structure Caught (K : PySem.W.Frag) (C D : Addr) : Prop where
  sub : PySem.W.mroIn K C (.ref D) = some true

def tTryAs (K : PySem.W.Frag) (D : Addr) (i : Nat) (tb : (St → XK) → TS) (th : Addr → TS) : TS := fun R σ H =>
  tb (fun σ' cv _ H' => ∃ C, cv = .ref C ∧ Caught K C D ∧ ∀ ea, H' ea = none →
    th ea { nx := fun σ2 H2 => R.nx (σ2.set i none) H2, rt := R.rt, bk := fun σ2 H2 => R.bk (σ2.set i none) H2, ct := fun σ2 H2 => R.ct (σ2.set i none) H2 } (σ'.set i (some (.ref ea))) (upd H' ea (XO C ea))) R σ H

theorem Inv.unname {M : Model} {A : Around} {E : Value → Shared → Prop} {X : Cx} {pins : List (Addr × Obj)} {σ : St} {H : Hp} {s : Shared} {i : Nat} {n : Str} {pos : Pos} {Q : Unit → Shared → Prop} (I : Inv X pins σ H s) (hN : X.N.Nodup) (hi : X.N[i]? = some n) (hl : X.env.kindOf n = some .local)
    (h : ∀ s', Inv X pins (σ.set i none) H s' → Q () s') : wpAny M A (do bindName X.env n .none; unbindBehindTheSuite X.env n pos) Q E s := by
  obtain ⟨m, hn, hv⟩ := id I.loc
  have hiσ : i < σ.length := by rw [I.len]; exact (List.getElem?_eq_some_iff.mp hi).1
  refine wpAny_nameGoes_keeps hl hn (by rw [I.ok.kind]; rfl) fun h' v hn' hs => h _ ?_
  obtain ⟨oL, _, _, hoL, _⟩ := id hn
  have out : ∀ b, b < X.s₀.heap.objs.size → b ≠ X.env.locals := fun b z q => absurd (Nat.lt_of_lt_of_le z I.ok.above) (by rw [q]; exact Nat.lt_irrefl _)
  refine ⟨I.ok, I.os, I.bare, ⟨fun b o e z hb hx => (hs.2 b (out b (Heap.lt_size e))).trans (I.base.keep b o e z hb hx), fun b o e z hb hx => ?_, I.base.free, fun b o e hx => ?_, I.base.tups, I.base.frzs, I.base.tbls⟩, ⟨_, hn', fun j y v' e1 e2 e3 => ?_⟩, fun y c e => ?_, I.free, I.freeC, fun q hq => ?_, fun b ob e => ?_, by simpa using I.len, Nat.succ_pos _⟩
  · obtain ⟨sl, e1⟩ := I.base.slot b o e z hb hx
    exact ⟨sl, (hs.2 b (out b (Heap.lt_size e))).trans e1⟩
  · obtain ⟨o', e1⟩ := I.base.there b o e hx
    exact ⟨o', (hs.2 b (out b (Heap.lt_size e))).trans e1⟩
  · have hj : j ≠ i := fun z => by subst z; rw [List.getElem?_set_self hiσ] at e2; cases e2
    rw [List.getElem?_set_ne (Ne.symm hj)] at e2
    obtain ⟨u', r', q⟩ := hv j y v' e1 e2 e3
    refine ⟨u', r', ?_⟩
    rcases q with ⟨k, e⟩ | ⟨k, c, e, z⟩
    · refine .inl ⟨k, ?_⟩
      have : y ≠ n := fun e => hj (nodup_ix hN e1 (e ▸ hi))
      simp [this, e]
    · exact .inr ⟨k, c, e, z.sameBut hs (I.cne y c e)⟩
  · obtain ⟨w', z⟩ := I.cell y c e
    exact ⟨w', z.sameBut hs (I.cne y c e)⟩
  · obtain ⟨e, z, ne, nf, d⟩ := I.pin q hq
    exact ⟨(hs.2 q.1 ne).trans e, z, ne, nf, d⟩
  · refine (I.hok b ob e).stay (fun c w' hc q => (hs.2 c ?_).trans q) (fun _ q => q) fun _ _ q => q
    rintro rfl
    rcases hc with rfl | hc
    · rw [I.free] at e; cases e
    · rw [I.free] at hc; cases hc

theorem ps_tryAs {X : Cx} {body suite : List Stmt} {b₀ : Stmt} {x n : Str} {np hpos pos : Pos} {D : Addr} {i : Nat} {tb : (St → XK) → TS} {th : Addr → TS} (hb : ∀ W p, PSs (X.tries W p) body (tb W)) (hh : ∀ ea, PSs (X.hand ea) (b₀ :: suite) (th ea))
    (hst : X.stack = X.env :: X.outer) (hfr : X.env.frame = some X.env.locals) (hg : Gl X x) (hm : X.mg x = some (.ref D)) (d : XCl X.K D) (hN : X.N.Nodup) (hi : X.N[i]? = some n) (hl : X.env.kindOf n = some .local) (hdb : (x == ("__debug__" : Str)) = false := by decide) :
    PS X (.Try body [.ExceptHandler (some (.Name x np)) (some n) (b₀ :: suite) hpos] [] [] pos) (tTryAs X.K D i tb th) := by
  intro pins s σ H R I h
  refine wpAny_Try_except (wpAny_mono (hb _ pins [] s σ H R I.tries h) (fun f s1 q => ?_) fun e s1 q => ?_)
  · have q : SP X pins R f s1 := by
      cases f with
      | next => obtain ⟨σ', H', I', z⟩ := q; exact ⟨σ', H', I'.untries, z⟩
      | brk => obtain ⟨σ', H', I', z⟩ := q; exact ⟨σ', H', I'.untries, z⟩
      | cont => obtain ⟨σ', H', I', z⟩ := q; exact ⟨σ', H', I'.untries, z⟩
      | ret u => obtain ⟨v, σ', H', I', r, z⟩ := q; exact ⟨v, σ', H', I'.untries, r, z⟩
    cases f with
    | next => exact wpAny_execs_nil q
    | _ => exact q
  · obtain ⟨σ1, H1, s0, I1, ea, C, H', rfl, tk, os, bare, F, C', eC, cau, k⟩ := q
    cases eC
    obtain ⟨B, a0, fl, inB⟩ := F.fl
    have ff : ∀ b ∈ frs X.stack, H1 b = none := I1.stkFree
    have hfs : X.A.frames = some (X.env :: X.outer) := by rw [← hst]; exact I1.ok.frames
    refine wpAny_looks_onW (env := X.env) (outer := X.outer) (L := X.env.locals) hfs hfr (by rw [← hst]; exact fl) fun h4 held4 up4 => ?_
    refine wpAny_landsW held4 fun h5 fl5 up5 => ?_
    have F5 : Fly X.prog X.w X.stack H1 H' s0.heap h5 ea C := F.on fl inB ff (by rw [hst]; exact fl5) (up4.trans up5)
    have I5 : Inv X pins σ1 H' { s1 with heap := h5 } := I1.call' (s' := { s1 with heap := h5 }) os F5.un F5.hok bare (fun b z => nomatch z) tk
    refine wpAny_handleBy_cons (codeAny_handlers_test ?_) (by intro q; cases q)
    refine ld_glob (I5.hand ea) hg hm ?_ hdb
    refine looks_excMatches I5.kIn d cau.sub fl5.there _ _ _ _ (fun _ _ z => z) ?_
    refine codeAny_handlers_suite_as ?_
    refine lands_againW fl5 fun h6 fl6 up6 => ?_
    have F6 : Fly X.prog X.w X.stack H1 H' s0.heap h6 ea C := F5.on (by rw [hst]; exact fl5) inB ff (by rw [hst]; exact fl6) up6
    have ne6 : ∀ b, H' b ≠ none → b ≠ ea := fun b z q => by rw [q, F6.fr] at z; exact z rfl
    have U6 : Un (frs X.stack) [] H1 (upd H' ea (XO C ea)) s0.heap h6 := by
      refine ⟨F6.un.keep, F6.un.slot, fun b o e z hx => ?_, F6.un.there, fun b xs e => ?_, fun b o u e => ?_, fun b ps e => ?_⟩
      · rw [upd_ne (F6.new b o e)]; exact F6.un.free b o e z hx
      · have q := F6.un.tups b xs e
        rw [upd_ne (ne6 b (by rw [q]; simp))]; exact q
      · have q := F6.un.frzs b o u e
        rw [upd_ne (ne6 b (by rw [q]; simp))]; exact q
      · obtain ⟨more, q⟩ := F6.un.tbls b ps e
        exact ⟨more, by rw [upd_ne (ne6 b (by rw [q]; simp))]; exact q⟩
    have O6 : HOk X.prog X.w (upd H' ea (XO C ea)) h6 := fun b o e => by
      by_cases hbe : b = ea
      · subst hbe
        rw [upd_same] at e; cases e
        exact XO.ok fl6.there
      · rw [upd_ne hbe] at e
        refine (F6.hok b o e).stay (fun _ _ _ q => q) (fun c q => ?_) fun c xs q => ?_
        · rw [upd_ne (ne6 c (by rw [q]; simp))]; exact q
        · rw [upd_ne (ne6 c (by rw [q]; simp))]; exact q
    have I6 : Inv X pins σ1 (upd H' ea (XO C ea)) { s1 with heap := h6 } := I1.call' (s' := { s1 with heap := h6 }) os U6 O6 bare (fun b z => nomatch z) tk
    refine store_ok (X := X.hand ea) (v := .ref ea) (I6.hand ea) hN hi (.inl hl) rfl (fun s7 I7 => ?_) (.inr hl)
    refine wpAny_mono (hh ea pins s7 _ _ _ I7 (k ea F6.fr)) (fun f s8 q => ?_) fun _ _ z => z.elim
    cases f with
    | next => obtain ⟨σ', H', I', z⟩ := q; exact (I'.unhand I.ok).unname hN hi hl fun s9 I9 => ⟨_, _, I9, z⟩
    | brk => obtain ⟨σ', H', I', z⟩ := q; exact (I'.unhand I.ok).unname hN hi hl fun s9 I9 => ⟨_, _, I9, z⟩
    | cont => obtain ⟨σ', H', I', z⟩ := q; exact (I'.unhand I.ok).unname hN hi hl fun s9 I9 => ⟨_, _, I9, z⟩
    | ret u => obtain ⟨v, σ', H', I', r, z⟩ := q; exact (I'.unhand I.ok).unname hN hi hl fun s9 I9 => ⟨v, _, _, I9, r, z⟩
end L2


set_option linter.all false
set_option maxRecDepth 100000
namespace L2
open PySem PySem.Spec PySem.Calls PyProof.Rows PySem.W Builtin Builtin.ObjectAttr Builtin.Getset_descriptor
section
variable {prog : Program} {w : World} {A : Around} {E : Value → Shared → Prop} {K : PySem.W.Frag} {x C : Addr} {o : Obj} {h : Heap} {g : Array GenState} {d : Drawn} {t : Nat} {os : OsState}
theorem xget_class {R : Result → Shared → Prop} (X : K.In h) (c : XCl K C) (hx : h.get? x = some o) (hc : o.cls = .ref C) (hq : R (.ok (.ret (.ref C))) ⟨h, g, d, t, os⟩) :
    codeAny (model prog w) A (.call (.builtin "getset_descriptor.__get__") ⟨[.builtin "object.__class__", .ref x, .ref C], []⟩) R ⟨h, g, d, t, os⟩ := by
  have L0 : Looks (model prog w) h (typeOf (.ref x)) (.ref C) := hc ▸ (Looks.ld hx).andThen .now
  have L1 := looks_mroIn (M := model prog w) X c.mo
  refine codeAny_call_builtin KF.slot_gs.plain KF.entry_gs (KF.slot_gs.check _ _ _ _ _ _ _ _ KF.type_class (KF.args_gs _ _ _) ?_)
  unfold Builtin.«getset_descriptor.__get__»
  unfold descrGet
  rw [dga_obj]
  apply wpAny_bind
  apply wpAny_pure
  unfold descrGetter descrCheckInstance
  unfold descrNameAndClass
  unfold isInstance
  simp only [KF.owner_class]
  repeat lk
  refine ⟨Code.quiet_builtin _ (by decide +kernel), ?_⟩
  apply codeAny_builtin KF.entry_class
  unfold Builtin.«object.__class__»
  unfold shownTypeOf
  repeat lk
  exact hq
theorem xfind_class (X : K.In h) (c : XCl K C) : Looks (model prog w) h (find (.ref x) (.ref C) "__class__") (Found.bind (.builtin "getset_descriptor.__get__") (.builtin "object.__class__")) := by
  have L1 := looks_findIn (M := model prog w) X c.ca
  have L2 : Looks (model prog w) h (getOf (some (.builtin "object.__class__"))) (some (.builtin "getset_descriptor.__get__")) := looks_specialIn X c.gt
  have L3 : Looks (model prog w) h (dataDescriptor? (some (.builtin "object.__class__")) (some (.builtin "getset_descriptor.__get__"))) (some (.builtin "getset_descriptor.__get__", .builtin "object.__class__")) := (looks_takesIn (M := model prog w) X c.tk).andThen .now
  exact L1.andThen (L2.andThen (L3.andThen (Looks.tag .now)))
theorem xentry_class {tk : Tok} {Q : Fin → Shared → Prop} (X : K.In h) (c : XCl K C) (hx : h.get? x = some o) (hc : o.cls = .ref C) (hq : Q (.done (.ret (.ref C))) ⟨h, g, d, t, os⟩) :
    wpAny (model prog w) A (Builtin.«object.__getattribute__» ⟨[.ref x, .str "__class__" tk], []⟩) Q E ⟨h, g, d, t, os⟩ := by
  have L0 : Looks (model prog w) h (typeOf (.ref x)) (.ref C) := hc ▸ (Looks.ld hx).andThen .now
  have L1 := xfind_class (prog := prog) (w := w) (x := x) X c
  unfold Builtin.«object.__getattribute__»
  apply wpAny_bind
  apply wpAny_pure
  dsimp only
  apply wpAny_bind
  apply wpAny_pure
  refine wpAny_bind (L0.at (wpAny_bind (L1.at ?_)))
  dsimp only
  show wpAny _ _ (holding [Value.builtin "object.__class__"] (call (Value.builtin "getset_descriptor.__get__") [Value.builtin "object.__class__", .ref x, .ref C]) >>= ret) _ _ _
  exact wpAny_bind (wpAny_holding (wpAny_call (xget_class X c hx hc (wpAny_pure hq))))
theorem xcheck_ga {M : Model} {nv : Value} {Q : Unit → Shared → Prop} (X : K.In h) (c : XCl K C) (hx : h.get? x = some o) (hc : o.cls = .ref C) (hq : Q () ⟨h, g, d, t, os⟩) :
    wpAny M A (checkBuiltinCall "BaseException.__getattribute__" ⟨[.ref x, nv], []⟩) Q E ⟨h, g, d, t, os⟩ := by
  have LI : Looks M h (isInstance (.ref x) (.type "BaseException")) true := (hc ▸ (Looks.ld hx).andThen .now : Looks M h (typeOf (.ref x)) (.ref C)).andThen (looks_mroIn (M := M) X c.mb)
  have kd : builtinKind "BaseException.__getattribute__" = some .slot := by decide +kernel
  have sp : splitId "BaseException.__getattribute__" = some ("BaseException", "__getattribute__") := by decide +kernel
  have ag := PySem.F.args_bexc_ga (.ref x) nv
  simp only [checkBuiltinCall, kd, sp]
  refine wpAny_bind (LI.at ?_)
  simp only [Bool.not_true, Bool.false_eq_true, if_false]
  repeat (any_goals (first | assumption | wp_step))
theorem xclass_by {tk : Tok} {Q : Value → Shared → Prop} (X : K.In h) (c : XCl K C) (hx : h.get? x = some o) (hc : o.cls = .ref C) (hq : Q (.ref C) ⟨h, g, d, t, os⟩) :
    wpAny (model prog w) A (getAttrBy (.ref x) (.str "__class__" tk) false) Q E ⟨h, g, d, t, os⟩ := by
  have L0 : Looks (model prog w) h (typeOf (.ref x)) (.ref C) := hc ▸ (Looks.ld hx).andThen .now
  have L1 := looks_findIn (M := model prog w) X c.ga
  have L2 := looks_findIn (M := model prog w) X c.gh
  have L3 := looks_mroIn (M := model prog w) X c.mb
  have LI : Looks (model prog w) h (isInstance (.ref x) (.type "BaseException")) true := L0.andThen L3
  unfold getAttrBy
  refine wpAny_holding (wpAny_bind (L0.at (wpAny_bind (L1.at ?_))))
  dsimp only
  have nga : (Value.builtin "BaseException.__getattribute__" == Value.builtin "object.__getattribute__") = false := by decide +kernel
  rw [if_neg (by rw [nga, Bool.and_false]; decide)]
  unfold getAttrByItsOwn hookBefore
  refine wpAny_bind (L2.at ?_)
  refine wpAny_bind (wpAny_attempt (wpAny_holding ?_))
  unfold callGetattribute
  rw [if_neg (by decide)]
  unfold boundAndCalled
  rw [PySem.F.attrBase_ValueError.ga.bind]
  refine wpAny_bind (wpAny_pure ?_)
  refine wpAny_call (codeAny_call_builtin PySem.F.attrBase_ValueError.ga.plain PySem.F.entry_bexc_ga ?_)
  refine xcheck_ga X c hx hc ?_
  have ok : wpAny (model prog w) A.in1 (Builtin.«object.__getattribute__» ⟨[.ref x, .str "__class__" tk], []⟩) (fun fin s' => fin = .done (.ret (.ref C)) ∧ s' = ⟨h, g, d, t, os⟩) (fun _ _ => False) ⟨h, g, d, t, os⟩ := xentry_class X c hx hc ⟨rfl, rfl⟩
  refine wpAny_mono ok (fun fin s' z => ?_) fun _ _ z => z.elim
  obtain ⟨rfl, rfl⟩ := z
  dsimp only
  exact handed_on rfl hq
theorem xclass_attr {Q : Option Value → Shared → Prop} (X : K.In h) (c : XCl K C) (hx : h.get? x = some o) (hc : o.cls = .ref C) (hq : Q (some (.ref C)) ⟨h, g, d, t + 1, os⟩) :
    wpAny (model prog w) A (getAttr? (.ref x) "__class__") Q E ⟨h, g, d, t, os⟩ := by
  unfold getAttr? getAttrBy?
  refine wpAny_bind (wpAny_mkText ?_)
  refine wpAny_bind (wpAny_attempt (xclass_by X c hx hc ?_))
  exact wpAny_pure hq
theorem kitx_exc (c : XCl K C) : KitX K (.ref x) (.ref C) (fun h => ∃ o, h.get? x = some o ∧ o.cls = .ref C) where
  ty := fun _ _ _ ⟨_, e1, e2⟩ => e2 ▸ (Looks.ld e1).andThen .now
  it := fun _ _ X _ => c.isType X
  ne := fun h tp dd its n sl X htp => by
    obtain ⟨tl, N, nm, q, bs, hdct, sn, sub, ab, col, dd', k0, k1, k2, k3, k5, mN, hC, _⟩ := (c.own X).obj
    refine Bool.eq_false_iff.mpr fun q => ?_
    have e : C = tp := Value.ref.inj (beq_iff_eq.mp q)
    rw [e] at hC
    have z := congrArg Obj.data (Option.some.inj (hC.symm.trans htp))
    cases z
  ca := fun {_ _ _ _ _ s} X ⟨_, e1, e2⟩ k => by
    obtain ⟨h, g, d, t, os⟩ := s
    exact xclass_attr X c e1 e2 k
end

/-- isinstance of an exception: of the class at C, against the class d -/
theorem kit_exc {K : PySem.W.Frag} {C D : Addr} {b : Bool} (c : XCl K D) (m : mroIn K C (.ref D) = some b) (hb : b = false → C ≠ D) : kitOne K (.ref C) (.ref D) = some b := by
  unfold kitOne
  by_cases q : ((Value.ref C == Value.ref D) = true)
  · rw [if_pos q]
    have e : C = D := Value.ref.inj (beq_iff_eq.mp q)
    cases b with
    | true => rfl
    | false => exact absurd e (hb rfl)
  · rw [if_neg q]
    unfold kitCls
    dsimp only
    have hc : (clsIn K D).isSome = true := by
      have := c.mb
      unfold mroIn at this
      cases e : clsIn K D with
      | none => rw [e] at this; cases this
      | some cd => rfl
    rw [if_pos (by rw [hc, c.ty]; simp)]
    exact m
theorem kit_excV {K : PySem.W.Frag} {C : Addr} {b : Bool} (m : mroIn K C (.type "ValueError") = some b) : kitOne K (.ref C) (.type "ValueError") = some b := by
  unfold kitOne
  rw [if_neg (by intro q; cases beq_iff_eq.mp q)]
  unfold kitCls
  dsimp only
  rw [if_pos (by decide +kernel)]
  exact m
section
variable {X : Cx} {pins : List (Addr × Obj)} {σ : St} {H : Hp} {s : Shared}
theorem Inv.exc (I : Inv X pins σ H s) {ea C : Addr} (e : H ea = some (XO C ea)) : ∃ o, s.heap.get? ea = some o ∧ o.cls = .ref C := (I.hok ea _ e).1
def V.cv : V → Option Value
  | .ref a => some (.ref a)
  | .ty n => some (.type n)
  | _ => none
theorem V.cv_of {v : V} {u c : Value} (r : RelV v u) (e : v.cv = some c) : u = c := by
  cases v with
  | ref a => cases e; exact r
  | ty n => cases e; exact r
  | _ => cases e
/-- isinstance(e, C), e an exception that was caught -/
theorem call_isiX : CallR X (.builtin "isinstance") (fun xs H Q => ∃ ea C v d b, xs = [.ref ea, v] ∧ v.cv = some d ∧ H ea = some (XO C ea) ∧ XCl X.K C ∧ kitOne X.K (.ref C) d = some b ∧ Q (.bl b) H) := by
  intro pins s σ H xs us Q I r h
  obtain ⟨ea, C, v, d, b, rfl, ev, e, c, m, q⟩ := h
  obtain ⟨u, u', rfl, r1, r2⟩ := vals2 r
  cases r1
  cases V.cv_of r2 ev
  exact tokQ I.tk (kia_one (kitx_exc c) I.kIn (I.exc e) m (fun z => nomatch z) fun tk (htk : 0 < tk) => ⟨.bl b, H, I.tok _, rfl, q⟩)
theorem vals_cv : ∀ {xs : List V} {us ds : List Value}, Vals xs us → xs.map V.cv = ds.map some → us = ds
  | [], _, [], .nil, _ => rfl
  | [], _, _ :: _, .nil, e => by cases e
  | _ :: _, _, [], .cons _ _, e => by cases e
  | x :: xs, _, d :: ds, .cons r t, e => by
    simp only [List.map_cons, List.cons.injEq] at e
    rw [V.cv_of r e.1, vals_cv t e.2]
theorem call_isiXT : CallR X (.builtin "isinstance") (fun xs H Q => ∃ ea C t vs ds b, xs = [.ref ea, .ref t] ∧ H t = some (.tup vs) ∧ vs.map V.cv = ds.map some ∧ H ea = some (XO C ea) ∧ XCl X.K C ∧ kitAny X.K (.ref C) ds = some b ∧ Q (.bl b) H) := by
  intro pins s σ H xs us Q I r h
  obtain ⟨ea, C, t, vs, ds, b, rfl, et, ev, e, c, m, q⟩ := h
  obtain ⟨u, u', rfl, r1, r2⟩ := vals2 r
  cases r1
  cases r2
  obtain ⟨_, its, rv, o, ho, hoc, n, hod⟩ := I.hok t _ et
  cases vals_cv rv ev
  obtain ⟨oc, od, oda, osl⟩ := o
  cases hoc
  cases hod
  exact tokQ I.tk (kia_tup (kitx_exc c) I.kIn (I.exc e) ho m (fun z => nomatch z) fun tk (htk : 0 < tk) => ⟨.bl b, H, I.tok _, rfl, q⟩)
end
end L2


set_option linter.all false
set_option maxRecDepth 100000
namespace L2
open PySem PySem.Spec PyProof.Rows
/-! ### defs that may raise -/
def CalleeX (P : Program) (w : World) (K : PySem.W.Frag) (mg : Str → Option Value) (base : Heap) (k : Nat) (x : Str) (ps : List Str) (sp : Sp) : Prop :=
  ∃ f fd, FnOk P w K mg base (XR P w) k f fd ps sp ∧ Binds K fd ps [] ∧ PySem.W.keepIn K (.ref f) = true ∧ mg x = some (.ref f)
theorem Fn.calX {P : Program} {w : World} {K : PySem.W.Frag} {mg : Str → Option Value} {base : Heap} {x : Str} {st : Stmt} {N ps : List Str} {k : Nat} {sp : Sp} (F : Fn K mg x st) (S : FnScope N ps (defScope st)) (len : ∀ vs H Q E, sp vs H Q E → vs.length = ps.length)
    (hb : ∀ (kV doc pm : Value) (an : Option Addr) (cdv ct : Value) (us : List Value), us.length = ps.length → bindArgs (PySem.W.fnOf x x (defArgs st) (defBody st) (defScope st) .none kV doc pm an cdv ct) ⟨us, []⟩ = pure (ps.zip us))
    (hbody : ∀ (f : Addr) (cdv : Value) (A : Around) (outer : List Env) (s : Shared) (H : Hp) (vs : List V) (Q : VK) (E : XK), Room k (A.deeper (envOfC x (defScope st) s.heap.objs.size f cdv)) → sp vs H Q E →
      ∃ t, PSs (cxOf (XR P w) P w K mg base N x (defScope st) f cdv A outer s H E) (defBody st) t ∧ t { nx := fun _ H' => Q .non H', rt := Q } (start N vs) H) : CalleeX P w K mg base (k + 1) x ps sp := by
  obtain ⟨f, fd, F, m⟩ := F
  have hB := F.binds hb
  have hK := F.kp
  obtain ⟨oc, od, kV, doc, pm, an, cdv, ct, osl, rfl, lk, hcd⟩ := F.ex
  exact ⟨f, _, fn_of lk hcd S len (hbody f cdv), hB, hK, m⟩
section
variable {X : Cx} {k : Nat} {x : Str} {ps : List Str} {sp : Sp} {p pos : Pos} {e : Expr} {es : List Expr} {t : TA} {E : XK} {W : St → XK}
/-- a call that may raise, in a def that may raise -/
theorem pe_fnX (C : CalleeX X.prog X.w X.K X.mg X.base k x ps sp) (hr : Room k X.A) (hx : Passes (XR X.prog X.w) X E) (hg : Gl X x) (ha : PA X (e :: es) t)
    (he : starEach (e :: es) X.env = (false, eval e X.env) :: starEach es X.env := by rfl) (hpl : (backTo pos (starEach es X.env)).any (·.1) = false := by rfl) (hd : (x == ("__debug__" : Str)) = false := by decide) : PE X (.Call (.Name x p) (e :: es) [] pos) (tCall sp [] E t) := by
  obtain ⟨f, fd, F, b, kp, m⟩ := C
  exact pe_call F hr hg m kp b .nil hx ha (hdb := hd) (he := he) (hpl := hpl)
/-- .. and in the body of a try -/
theorem pe_fnT (C : CalleeX X.prog X.w X.K X.mg X.base k x ps sp) (hr : Room k X.A) (hx : PassesT (XR X.prog X.w) X W) (hg : Gl X x) (ha : PA X (e :: es) t)
    (he : starEach (e :: es) X.env = (false, eval e X.env) :: starEach es X.env := by rfl) (hpl : (backTo pos (starEach es X.env)).any (·.1) = false := by rfl) (hd : (x == ("__debug__" : Str)) = false := by decide) : PE X (.Call (.Name x p) (e :: es) [] pos) (tCallT sp [] W t) := by
  obtain ⟨f, fd, F, b, kp, m⟩ := C
  exact pe_callT F hr hg m kp b .nil hx ha (hdb := hd) (he := he) (hpl := hpl)
/-- .. where it does not raise -/
theorem CalleeX.calm {P : Program} {w : World} {K : PySem.W.Frag} {mg : Str → Option Value} {base : Heap} {k : Nat} {x : Str} {ps : List Str} {sp : Sp} (C : CalleeX P w K mg base k x ps sp) :
    Callee P w K mg base k x ps (fun vs H Q _ => sp vs H Q E0) := by
  obtain ⟨f, fd, F, b, kp, m⟩ := C
  refine ⟨f, fd, ⟨fun vs H Q _ h => F.len vs H Q E0 h, fun A outer s H args us vs Q E hr e0 hb hv h => ?_⟩, b, kp, m⟩
  refine codeAny_mono (F.run A outer s H args us vs Q E0 hr e0 hb hv h) fun r s' q => ?_
  rcases r with er | fl
  · obtain ⟨_, _, _, _, _, _, _, _, z⟩ := q
    exact z.elim
  · cases fl with
    | ret u => exact q
    | _ => exact q.elim
end
theorem PS.nox {X : Cx} {st : Stmt} {t : TS} (h : PS X.nox st t) : PS X st t := fun pins s σ H D I hw =>
  wpAny_mono (h pins s σ H D (I.wish _) hw) (fun _ _ q => q.unwish) fun _ _ z => z.elim
theorem PS.calm {X : Cx} {st : Stmt} {t : TS} (h : PS X.nox st t) : PS X st t := PS.nox h

/-! ### isinstance, by the class -/
section
variable {X : Cx} {a c : Expr} {es : List Expr} {ta : TE} {pos p tpos : Pos} {x1 : Nat}
def cIsX (K : PySem.W.Frag) (d : Value) (ta : TE) : TE := fun σ H Q => ta σ H fun x H1 => match x with
  | .ref ea => ∃ C b, H1 ea = some (XO C ea) ∧ XCl K C ∧ PySem.W.kitOne K (.ref C) d = some b ∧ Q (.bl b) H1
  | _ => False
theorem qe_isiX {v : V} {d : Value} (K : PySem.W.Frag) (hK : X.K = K) (ev : v.cv = some d) (hg : Gl X "isinstance") (hm : X.mg "isinstance" = none) (ha : PE X a ta) (hc : PE X c (tC v))
    (hs : starEach [a, c] X.env = (false, eval a X.env) :: starEach [c] X.env := by rfl) (hs2 : starEach [c] X.env = (false, eval c X.env) :: starEach [] X.env := by rfl) (hpl : (backTo pos (starEach [c] X.env)).any (·.1) = false := by rfl) : PE X (.Call (.Name "isinstance" p) [a, c] [] pos) (cIsX K d ta) := by
  subst hK
  refine (pe_callB call_isiX hg hm bb_isinstance (pa_cons ha.mono (pa_cons hc pa_nil hs2) hs) (he := hs) (hpl := hpl)).imp fun σ H Q q => ⟨_, q, fun x H1 z => ?_⟩
  split at z
  · obtain ⟨C, b, h1, h2, h3, z⟩ := z
    exact ⟨_, C, v, d, b, rfl, ev, h1, h2, h3, z⟩
  · exact z.elim
def tCs (vs : List V) : TA := fun _ H Q => Q vs H
theorem pac_nil : PA X [] (tCs []) := pa_nil
theorem pac_cons {v : V} {vs : List V} (ha : PE X a (tC v)) (hr : PA X es (tCs vs)) (hs : starEach (a :: es) X.env = (false, eval a X.env) :: starEach es X.env := by rfl) : PA X (a :: es) (tCs (v :: vs)) := pa_cons ha hr hs
def cIsXT (K : PySem.W.Frag) (vs : List V) (ds : List Value) (ta : TE) : TE := fun σ H Q => ta σ H fun x H1 => match x with
  | .ref ea => ∃ C b, H1 ea = some (XO C ea) ∧ XCl K C ∧ PySem.W.kitAny K (.ref C) ds = some b ∧ ∀ p, H1 p = none → Q (.bl b) (upd H1 p (.tup vs))
  | _ => False
theorem qe_isiXT {vs : List V} {ds : List Value} (K : PySem.W.Frag) (hK : X.K = K) (ev : vs.map V.cv = ds.map some) (hz : vs.length ≤ sizeLine) (hg : Gl X "isinstance") (hm : X.mg "isinstance" = none) (ha : PE X a ta) (hc : PA X es (tCs vs))
    (hs : starEach [a, .Tuple es x1 tpos] X.env = (false, eval a X.env) :: starEach [.Tuple es x1 tpos] X.env := by rfl) (hs2 : starEach [.Tuple es x1 tpos] X.env = (false, eval (.Tuple es x1 tpos) X.env) :: starEach [] X.env := by rfl) (hpl : (backTo pos (starEach [.Tuple es x1 tpos] X.env)).any (·.1) = false := by rfl) :
    PE X (.Call (.Name "isinstance" p) [a, .Tuple es x1 tpos] [] pos) (cIsXT K vs ds ta) := by
  subst hK
  refine (pe_callB call_isiXT hg hm bb_isinstance (pa_cons ha.mono (pa_cons (pe_tup hc) pa_nil hs2) hs) (he := hs) (hpl := hpl)).imp fun σ H Q q => ⟨_, q, fun x H1 z => ⟨hz, fun q0 hq0 => ?_⟩⟩
  split at z
  · obtain ⟨C, b, h1, h2, h3, z⟩ := z
    exact ⟨_, C, q0, vs, ds, b, rfl, upd_same, ev, by rw [upd_ne (ne_of_none h1 hq0)]; exact h1, h2, h3, z q0 hq0⟩
  · exact z.elim
end
theorem kitAny_nil {K : PySem.W.Frag} {t : Value} : PySem.W.kitAny K t [] = some false := rfl
theorem kitAny_no {K : PySem.W.Frag} {t c : Value} {r : List Value} (h : PySem.W.kitOne K t c = some false) : PySem.W.kitAny K t (c :: r) = PySem.W.kitAny K t r := by
  rw [PySem.W.kitAny, h]

/-! ### f-strings: a text, whatever it is -/
abbrev TJ := Nat → St → Hp → (Hp → Prop) → Prop
def PJ (X : Cx) (es : List Expr) (t : TJ) : Prop := ∀ (acc : Str) (pins : List (Addr × Obj)) (s : Shared) (σ : St) (H : Hp) (Q : Hp → Prop), acc.length ≤ sizeLine → Inv X pins σ H s → t acc.length σ H Q →
  Joins (model X.prog X.w) X.A X.xe (evalEach es X.env) acc (fun out s1 => out.length ≤ sizeLine ∧ ∃ H1, Inv X pins σ H1 s1 ∧ Q H1) s
def jNil : TJ := fun _ _ H Q => Q H
def jCons (te : TE) (tj : TJ) : TJ := fun n σ H Q => te σ H fun x H1 => match x with
  | .str y => n + y.length ≤ sizeLine ∧ tj (n + y.length) σ H1 Q
  | _ => False
section
variable {X : Cx} {e v1 v2 : Expr} {es rest : List Expr} {te : TE} {tj : TJ} {pos : Pos}
theorem pj_nil : PJ X [] jNil := fun acc pins s σ H Q hz I q => ⟨hz, H, I, q⟩
theorem pj_cons (he : PE X e te) (hr : PJ X es tj) (hs : evalEach (e :: es) X.env = eval e X.env :: evalEach es X.env := by rfl) : PJ X (e :: es) (jCons te tj) := by
  intro acc pins s σ H Q hz I q
  rw [hs]
  refine thn (he pins s σ H _ I q) fun u s1 ⟨x, H1, I1, r, z⟩ => ?_
  dsimp only at z
  split at z
  · rename_i y
    obtain ⟨t, rfl⟩ := r
    have hl : (acc ++ y).length = acc.length + y.length := strLen_append _ _
    exact ⟨y, t, rfl, by rw [hl]; exact z.1, hr (acc ++ y) pins s1 σ H1 Q (by rw [hl]; exact z.1) I1 (by rw [hl]; exact z.2)⟩
  · exact z.elim
def cFS (tj : TJ) : TE := fun σ H Q => tj 0 σ H fun H1 => ∀ z, Q (.str z) H1
theorem pe_fs (h : PJ X (v1 :: v2 :: rest) tj) : PE X (.JoinedStr (v1 :: v2 :: rest) pos) (cFS tj) := by
  intro pins s σ H Q I q
  have J := h Str.empty pins s σ H _ (by decide) I q
  refine wpAny_JoinedStr ?_
  have mono : ∀ {P R : Str → Shared → Prop} (l : List (Sem Value)) (acc : Str) (s : Shared), (∀ o s, P o s → R o s) → Joins (model X.prog X.w) X.A X.xe l acc P s → Joins (model X.prog X.w) X.A X.xe l acc R s := by
    intro P R l
    induction l with
    | nil => intro acc s k z; exact k _ _ z
    | cons x r ih =>
      intro acc s k z
      exact thn z fun v s1 ⟨y, t, e, hz, z⟩ => ⟨y, t, e, hz, ih _ _ k z⟩
  exact mono _ _ _ (fun out s1 ⟨hz, H1, I1, z⟩ => ⟨hz, ⟨.str out, H1, I1.tok _, ⟨_, rfl⟩, z out⟩⟩) J
/-- {v!r}, v a text -/
def cFmtR (tv : TE) : TE := fun σ H Q => tv σ H fun x H1 => match x with
  | .str y => (∀ c ∈ y.cps.toList, c < 16 ^ 8) ∧ y.length ≤ 100000 ∧ ∀ z : Str, z.length ≤ 10 * y.length + 2 → Q (.str z) H1
  | _ => False
theorem pe_fmtR (hv : PE X e te) : PE X (.FormattedValue e 114 none pos) (cFmtR te) := by
  intro pins s σ H Q I q
  refine wpAny_FormattedValue_repr (thn (hv pins s σ H _ I q) fun u s1 ⟨x, H1, I1, r, z⟩ => ?_)
  dsimp only at z
  split at z
  · rename_i y
    obtain ⟨t, rfl⟩ := r
    obtain ⟨h1, h2, z⟩ := z
    have hl := PySem.StrLaws.reprText_len y h1
    have hs : (reprText y).length ≤ sizeLine := Nat.le_trans hl (Nat.le_trans (by omega : 10 * y.length + 2 ≤ 1000002) (by decide))
    refine wpAny_pyReprObj_str ?_ hs
    exact tokQ (Nat.succ_pos _) (formatField_str (fun t' tk (htk : 0 < tk) => ⟨.str (reprText y), H1, I1.tok _, ⟨_, rfl⟩, z _ hl⟩) hs)
  · exact z.elim
end
end L2


set_option linter.all false
set_option maxRecDepth 100000
namespace L2
open PySem PySem.Spec PyProof.Rows
/-- where a class of the text stands -/
def xA (K : PySem.W.Frag) (x : Str) : Addr := match PySem.W.nsIn K mainGlobals x with
  | some (some (.ref a)) => a
  | _ => 0
theorem xA_eq {K : PySem.W.Frag} {x : Str} {C : Addr} (e : PySem.W.nsIn K mainGlobals x = some (some (.ref C))) : xA K x = C := by unfold xA; rw [e]
/-- the class x of the text -/
def Xn (K : PySem.W.Frag) (mg : Str → Option Value) (x : Str) : Prop := mg x = some (.ref (xA K x)) ∧ XCl K (xA K x)
/-- whether the class x is y or under it -/
def Xm (K : PySem.W.Frag) (x y : Str) (b : Bool) : Prop := PySem.W.mroIn K (xA K x) (.ref (xA K y)) = some b ∧ (b = false → xA K x ≠ xA K y)
def Xv (K : PySem.W.Frag) (x : Str) : Prop := PySem.W.mroIn K (xA K x) (.type "ValueError") = some true
theorem Xn.kit {K : PySem.W.Frag} {mg : Str → Option Value} {x y : Str} {b : Bool} (m : Xm K x y b) (n : Xn K mg y) : PySem.W.kitOne K (.ref (xA K x)) (.ref (xA K y)) = some b := kit_exc n.2 m.1 m.2
theorem Xv.kit {K : PySem.W.Frag} {x : Str} (m : Xv K x) : PySem.W.kitOne K (.ref (xA K x)) (.type "ValueError") = some true := kit_excV m
theorem Xm.caught {K : PySem.W.Frag} {x y : Str} (m : Xm K x y true) : Caught K (xA K x) (xA K y) := ⟨m.1⟩
theorem bb_ValueError : bootBuiltins "ValueError" = some (.type "ValueError") := by decide +kernel
section
variable {K : PySem.W.Frag} {h : Heap} {mg : Str → Option Value} {x y : Str} {C D : Addr}
theorem xn_mk (X : K.In h) (G : h.Ns mainGlobals mg) (n : PySem.W.nsIn K mainGlobals x = some (some (.ref C))) (ex : PySem.W.excIn K C bmV "ValueError.__new__" = true) (ty : PySem.W.typeIn K (.ref C) = some (.type "type")) (mb : PySem.W.mroIn K C (.type "BaseException") = some true)
    (ga : PySem.W.findIn K (.ref C) "__getattribute__" = some (some (.builtin "BaseException.__getattribute__"))) (gh : PySem.W.findIn K (.ref C) "__getattr__" = some none) (ca : PySem.W.findIn K (.ref C) "__class__" = some (some (.builtin "object.__class__"))) (mo : PySem.W.mroIn K C (.type "object") = some true)
    (gt : PySem.W.specialIn K (.builtin "object.__class__") "__get__" = some (some (.builtin "getset_descriptor.__get__"))) (tk : PySem.W.takesIn K (.builtin "object.__class__") = some true) : Xn K mg x := by
  unfold Xn
  rw [xA_eq n]
  exact ⟨PySem.W.mg_of X G n, ⟨ex, ty, mb, ga, gh, ca, gt, tk, mo⟩⟩
theorem xm_mk {b : Bool} (n : PySem.W.nsIn K mainGlobals x = some (some (.ref C))) (n' : PySem.W.nsIn K mainGlobals y = some (some (.ref D))) (m : PySem.W.mroIn K C (.ref D) = some b) (d : b = false → C ≠ D) : Xm K x y b := by
  unfold Xm
  rw [xA_eq n, xA_eq n']
  exact ⟨m, d⟩
theorem xv_mk (n : PySem.W.nsIn K mainGlobals x = some (some (.ref C))) (m : PySem.W.mroIn K C (.type "ValueError") = some true) : Xv K x := by
  unfold Xv
  rw [xA_eq n]
  exact m
end
theorem qe_cls {X : Cx} {K : PySem.W.Frag} {x : Str} {pos : Pos} (n : Xn K X.mg x) (hg : Gl X x) (hd : (x == ("__debug__" : Str)) = false := by decide) : PE X (.Name x pos) (tC (.ref (xA K x))) := pe_glob (v := .ref (xA K x)) hg n.1 rfl hd
/-! readings, a step each -/
theorem a_tCallT {sp : Sp} {W : St → XK} {t : TA} {σ : St} {H : Hp} {Q : VK} : tCallT sp [] W t σ H Q = t σ H fun vs H1 => sp vs H1 Q (W σ) := by
  unfold tCallT
  simp only [List.append_nil]
theorem a_tRaise {C : Addr} {E : XK} {t : TA} {D : Ends} {σ : St} {H : Hp} : tRaise C E t D σ H = t σ H fun vs H1 => vs.length ≤ sizeLine ∧ E (.ref C) none H1 := rfl
theorem a_cFS {tj : TJ} {σ : St} {H : Hp} {Q : VK} : cFS tj σ H Q = tj 0 σ H fun H1 => ∀ z, Q (.str z) H1 := rfl
theorem a_jNil {n : Nat} {σ : St} {H : Hp} {Q : Hp → Prop} : jNil n σ H Q = Q H := rfl
theorem a_jCons {te : TE} {tj : TJ} {n : Nat} {σ : St} {H : Hp} {Q : Hp → Prop} : jCons te tj n σ H Q = te σ H fun x H1 => match x with
  | .str y => n + y.length ≤ sizeLine ∧ tj (n + y.length) σ H1 Q
  | _ => False := rfl
theorem a_cFmtR {tv : TE} {σ : St} {H : Hp} {Q : VK} : cFmtR tv σ H Q = tv σ H fun x H1 => match x with
  | .str y => (∀ c ∈ y.cps.toList, c < 16 ^ 8) ∧ y.length ≤ 100000 ∧ ∀ z : Str, z.length ≤ 10 * y.length + 2 → Q (.str z) H1
  | _ => False := rfl
theorem a_cIsX {K : PySem.W.Frag} {d : Value} {ta : TE} {σ : St} {H : Hp} {Q : VK} : cIsX K d ta σ H Q = ta σ H fun x H1 => match x with
  | .ref ea => ∃ C b, H1 ea = some (XO C ea) ∧ XCl K C ∧ PySem.W.kitOne K (.ref C) d = some b ∧ Q (.bl b) H1
  | _ => False := rfl
theorem a_cIsXT {K : PySem.W.Frag} {vs : List V} {ds : List Value} {ta : TE} {σ : St} {H : Hp} {Q : VK} : cIsXT K vs ds ta σ H Q = ta σ H fun x H1 => match x with
  | .ref ea => ∃ C b, H1 ea = some (XO C ea) ∧ XCl K C ∧ PySem.W.kitAny K (.ref C) ds = some b ∧ ∀ p, H1 p = none → Q (.bl b) (upd H1 p (.tup vs))
  | _ => False := rfl
theorem a_tTryAs {K : PySem.W.Frag} {D : Addr} {i : Nat} {tb : (St → XK) → TS} {th : Addr → TS} {R : Ends} {σ : St} {H : Hp} : tTryAs K D i tb th R σ H =
  tb (fun σ' cv _ H' => ∃ C, cv = .ref C ∧ Caught K C D ∧ ∀ ea, H' ea = none →
    th ea { nx := fun σ2 H2 => R.nx (σ2.set i none) H2, rt := R.rt, bk := fun σ2 H2 => R.bk (σ2.set i none) H2, ct := fun σ2 H2 => R.ct (σ2.set i none) H2 } (σ'.set i (some (.ref ea))) (upd H' ea (XO C ea))) R σ H := rfl
end L2


set_option linter.all false
namespace L2
open PySem PySem.Spec PyProof.Rows PySem.Builtin PySem.Builtin.Str
/-! ### a text between two places -/
section
variable {X : Cx}
def kSlB : V → Option Int → Option Int → Hp → VK → Prop := fun x lo hi H Q => match x, lo, hi with
  | .str z, some i, some j => z.cps.toList.length ≤ 100000 ∧ 0 ≤ i ∧ i ≤ j ∧ j ≤ z.cps.toList.length ∧ Q (.str (st ((z.cps.toList.drop i.toNat).take (j.toNat - i.toNat)))) H
  | _, _, _ => False
theorem a_kSlB {l : List Nat} {i j : Int} {H : Hp} {Q : VK} : kSlB (.str (st l)) (some i) (some j) H Q = (l.length ≤ 100000 ∧ 0 ≤ i ∧ i ≤ j ∧ j ≤ l.length ∧ Q (.str (st ((l.drop i.toNat).take (j.toNat - i.toNat)))) H) := rfl
end
end L2


set_option linter.all false
namespace L2
open PySem PySem.Spec PyProof.Rows
section
variable {K : PySem.W.Frag} {g : TG} {tc : TT} {te : TE} {σc : St} {D : Addr} {Q : VK} {H : Hp}
theorem paired_snoc' {α β : Type} {F : α → β → Prop} {l : List α} {m : List β} {x : α} {y : β} (h : Paired F l m) (r : F x y) : Paired F (l ++ [x]) (m ++ [y]) := by
  induction h with
  | nil => exact .cons r .nil
  | cons r' _ ih => exact .cons r' ih
/-- a comprehension over a range whose items are new things -/
theorem comp_relR {lo : Int} {n : Nat} (R : Nat → V → Hp → Prop) (hfree : H D = none) (hn : n ≤ 100000)
    (mono : ∀ x v H1 H2 acc, H1 D = some (.lst acc) → (∀ b o, b ≠ D → H1 b = some o → H2 b = some o) → R x v H1 → R x v H2)
    (hs : ∀ i H1 (out : VK) (non : Hp → Prop), i < n → Same H H1 → (∀ v H6, Same H1 H6 → R i v H6 → out v H6) →
      g (.int (lo + i)) σc H1 fun σ4 H4 => tc σ4 H4 fun b H5 => if b = true then te σ4 H5 out else non H5)
    (hq : ∀ H' vs, Same H H' → H' D = some (.lst vs) → Paired (fun x v => R x v H') (List.range n) vs → Q (.ref D) H') : compW (Itr lo n) g tc te σc D Q H := by
  refine ⟨fun i m acc H2 => m = n - i ∧ i ≤ n ∧ Paired (fun x v => R x v H2) (List.range i) acc ∧ Same H H2 ∧ H2 D = some (.lst acc), ⟨n, by simp, Nat.zero_le _, .nil, same_new hfree _, upd_same⟩, ?_⟩
  rintro i m acc H2 ⟨rfl, hi, pr, sm, hD⟩
  have len : acc.length = i := by rw [← pr.length, List.length_range]
  by_cases hlt : i < n
  · refine .inr ⟨hlt, fun x H3 y => ?_⟩
    obtain ⟨rfl, rfl⟩ := y
    refine hs i _ _ _ hlt sm fun v H6 s6 r => ?_
    refine ⟨s6 _ _ hD, Nat.lt_of_le_of_lt (Nat.le_of_eq len) (sizeBig (by omega)), n - (i + 1), by omega, rfl, hlt, ?_, same_upd (sm.trans s6) hfree, upd_same⟩
    have lift : ∀ {l : List Nat} {vs : List V}, Paired (fun x v => R x v H3) l vs → Paired (fun x v' => R x v' (upd H6 D (.lst (acc ++ [v])))) l vs := fun pp =>
      L2.Paired.mapP pp fun _ _ r => mono _ _ H3 _ acc hD (fun b o nb q => by rw [upd_ne nb]; exact s6 _ _ q) r
    rw [List.range_succ]
    exact paired_snoc' (lift pr) (mono _ _ H6 _ acc (s6 _ _ hD) (fun b o nb q => by rw [upd_ne nb]; exact q) r)
  · have e : i = n := by omega
    subst e
    exact .inl ⟨Nat.le_refl _, hq H2 acc sm hD pr⟩
end
end L2


set_option linter.all false
set_option maxRecDepth 100000
namespace L2
open PySem PySem.Spec PyProof.Rows
/-! ### defs that are called while an exception is handled -/
structure RoomH (k : Nat) (A : Around) : Prop where
  dp : A.depth + 3 * k + 5 < recursionLimit
  un : A.units + 16 * k + 200 < cLine
theorem Room.h {k : Nat} {A : Around} (r : Room k A) : RoomH k A := ⟨r.dp, r.un⟩
theorem RoomH.mark {k : Nat} {A : Around} (r : RoomH k A) (v : Option Value) : RoomH k (A.mark v) := ⟨r.dp, r.un⟩
theorem RoomH.mono {j k : Nat} {A : Around} (r : RoomH k A) (h : j ≤ k) : RoomH j A := ⟨by have := r.dp; omega, by have := r.un; omega⟩
def Cx.loud (X : Cx) : Cx := { X with calm := false, xe := fun _ _ => False }
theorem Inv.loud {X : Cx} {p : List (Addr × Obj)} {σ : St} {H : Hp} {s : Shared} (I : Inv X p σ H s) : Inv X.loud p σ H s :=
  ⟨⟨I.ok.mod, I.ok.kind, I.ok.glob, I.ok.blt, I.ok.above, I.ok.inj, I.ok.has, I.ok.cab, fun z => (nomatch z), I.ok.frames, I.ok.stk, I.ok.exf, I.ok.bs, I.ok.bsz, I.ok.noex, I.ok.exfs, I.ok.funs, I.ok.frf⟩, I.os, I.bare, I.base, I.loc, I.cell, I.free, I.freeC, I.pin, I.hok, I.len, I.tk⟩
/-- a def by its body, whatever is handled around the call -/
structure FnOkH (P : Program) (w : World) (K : PySem.W.Frag) (mg : Str → Option Value) (base : Heap) (k : Nat) (f : Addr) (fd : FuncData) (ps : List Str) (sp : Sp) : Prop where
  len : ∀ vs H Q E, sp vs H Q E → vs.length = ps.length
  run : ∀ (A : Around) (outer : List Env) (s : Shared) (H : Hp) (args : Args) (us : List Value) (vs : List V) (Q : VK) (E : XK), RoomH k A → Env0 P w K mg base A outer s H → BindsTo s fd args (ps.zip us) → Vals vs us → sp vs H Q E →
    codeAny (model P w) A (.call (.ref f) args) (CR CX0 outer P w H s Q E) s
theorem fn_ofH {P : Program} {w : World} {K : PySem.W.Frag} {mg : Str → Option Value} {base : Heap} {k : Nat} {f : Addr} {name qual : Str} {params : Arguments} {body : List Stmt} {scope : Scope} {dV kV doc pm cdv ct oc : Value} {an od : Option Addr}
    {osl : Array (Option Value)} {N ps : List Str} {sp : Sp} (lk : K.lookup f = some ⟨oc, od, .func (PySem.W.fnOf name qual params body scope dV kV doc pm an cdv ct), osl⟩) (hcd : PySem.W.codeIn K cdv qual = true) (S : FnScope N ps scope)
    (len : ∀ vs H Q E, sp vs H Q E → vs.length = ps.length)
    (hbody : ∀ (A : Around) (outer : List Env) (s : Shared) (H : Hp) (vs : List V) (Q : VK) (E : XK), RoomH k (A.deeper (envOfC qual scope s.heap.objs.size f cdv)) → sp vs H Q E →
      ∃ t, PSs (cxOf CX0 P w K mg base N qual scope f cdv A outer s H E).loud body t ∧ t { nx := fun _ H' => Q .non H', rt := Q } (start N vs) H) :
    FnOkH P w K mg base (k + 1) f (PySem.W.fnOf name qual params body scope dV kV doc pm an cdv ct) ps sp where
  len := len
  run := fun A outer s H args us vs Q E hr e0 hb r hsp => by
    have hl := len _ _ _ _ hsp
    have keep : ∀ b o, base.get? b = some o → s.heap.get? b = some o := fun b o e => (e0.bs b o e).1
    have KX : K.In s.heap := e0.mod.kin.keeps keep
    have lim : s.heap.NoLimit := e0.mod.nolimit.keeps keep
    have loc : ∀ y ∈ ps.zip us, scope.names.lookup y.1 = some .local ∨ (scope.names.lookup y.1 = some .cell ∧ ((cellsFrom (s.heap.objs.size + 1) scope.names []).lookup y.1).isSome = true) := by
      rintro ⟨n, v⟩ hy
      exact (S.par n (List.of_mem_zip hy).1).imp id fun q => ⟨q, PySem.W.cellsFrom_some _ _ _ (.inl q)⟩
    have hd : A.depth < recursionLimit := by have := hr.dp; omega
    refine codeAny_call_function hd (KX _ _ lk) rfl S.co S.gen rfl (PySem.W.codeRec_of KX hcd) (hb _ _ _ _ (tokQ e0.tk (wpAny_newFunctionEnv_cells S.kind loc fun env he s1 x htk => ?_)))
    subst he
    refine ⟨lim.keeps x.toInCall.keep, codeAny_func ?_⟩
    have hr2 : RoomH k (A.deeper (envOfC qual scope s.heap.objs.size f cdv)) := ⟨by have := hr.dp; show A.depth + 1 + 3 * k + 5 < _; omega, by have := hr.un; show A.units + 3 + 16 * k + 200 < _; omega⟩
    obtain ⟨t, ht, hq⟩ := hbody A outer s H vs Q E hr2 hsp
    have e1 : Env0 P w K mg base { A with handled := none } outer s H := ⟨e0.frames, e0.mod, e0.bs, e0.bsz, e0.funs, e0.frf, e0.hok, e0.bare, e0.tk⟩
    have I0 : Inv (cxOf CX0 P w K mg base N qual scope f cdv { A with handled := none } outer s H E) [] (start N vs) H s1 := inv_start S rfl e1 hl r x htk
    have I1 := I0.loud
    have I : Inv (cxOf CX0 P w K mg base N qual scope f cdv A outer s H E).loud [] (start N vs) H s1 :=
      ⟨⟨I1.ok.mod, I1.ok.kind, I1.ok.glob, I1.ok.blt, I1.ok.above, I1.ok.inj, I1.ok.has, I1.ok.cab, fun z => (nomatch z), Around.frames_deeper e0.frames, I1.ok.stk, I1.ok.exf, I1.ok.bs, I1.ok.bsz, I1.ok.noex, I1.ok.exfs, I1.ok.funs, I1.ok.frf⟩, I1.os, I1.bare, I1.base, I1.loc, I1.cell, I1.free, I1.freeC, I1.pin, I1.hok, I1.len, I1.tk⟩
    refine wpAny_mono (ht [] s1 (start N vs) H _ I hq) (fun fl s' hs => ?_) fun e s' hs => hs.elim
    have fin : ∀ {σ' : St} {H' : Hp} {v : V} {u : Value}, Inv (cxOf CX0 P w K mg base N qual scope f cdv A outer s H E).loud [] σ' H' s' → RelV v u → Q v H' → CE outer P w H s Q u s' :=
      fun {σ' H' v u} J rv q => ⟨v, H', J.tk, J.os, J.bare, J.base, J.hok, rv, q⟩
    cases fl with
    | ret u => obtain ⟨v, σ', H', J, rv, q⟩ := hs; exact fin J rv q
    | next => obtain ⟨σ', H', J, q⟩ := hs; exact fin (v := V.non) (u := Value.none) J rfl q
    | brk => obtain ⟨_, _, _, q⟩ := hs; exact q.elim
    | cont => obtain ⟨_, _, _, q⟩ := hs; exact q.elim
def CalleeH (P : Program) (w : World) (K : PySem.W.Frag) (mg : Str → Option Value) (base : Heap) (k : Nat) (x : Str) (ps : List Str) (sp : Sp) : Prop :=
  ∃ f fd, FnOkH P w K mg base k f fd ps sp ∧ Binds K fd ps [] ∧ PySem.W.keepIn K (.ref f) = true ∧ mg x = some (.ref f)
theorem Fn.calH {P : Program} {w : World} {K : PySem.W.Frag} {mg : Str → Option Value} {base : Heap} {x : Str} {st : Stmt} {N ps : List Str} {k : Nat} {sp : Sp} (F : Fn K mg x st) (S : FnScope N ps (defScope st)) (len : ∀ vs H Q E, sp vs H Q E → vs.length = ps.length)
    (hb : ∀ (kV doc pm : Value) (an : Option Addr) (cdv ct : Value) (us : List Value), us.length = ps.length → bindArgs (PySem.W.fnOf x x (defArgs st) (defBody st) (defScope st) .none kV doc pm an cdv ct) ⟨us, []⟩ = pure (ps.zip us))
    (hbody : ∀ (f : Addr) (cdv : Value) (A : Around) (outer : List Env) (s : Shared) (H : Hp) (vs : List V) (Q : VK) (E : XK), RoomH k (A.deeper (envOfC x (defScope st) s.heap.objs.size f cdv)) → sp vs H Q E →
      ∃ t, PSs (cxOf CX0 P w K mg base N x (defScope st) f cdv A outer s H E).loud (defBody st) t ∧ t { nx := fun _ H' => Q .non H', rt := Q } (start N vs) H) : CalleeH P w K mg base (k + 1) x ps sp := by
  obtain ⟨f, fd, F, m⟩ := F
  have hB := F.binds hb
  have hK := F.kp
  obtain ⟨oc, od, kV, doc, pm, an, cdv, ct, osl, rfl, lk, hcd⟩ := F.ex
  exact ⟨f, _, fn_ofH lk hcd S len (hbody f cdv), hB, hK, m⟩
section
variable {X : Cx} {k : Nat} {x : Str} {ps : List Str} {sp : Sp} {p pos : Pos} {e : Expr} {es : List Expr} {t : TA}
theorem pe_fnH (C : CalleeH X.prog X.w X.K X.mg X.base k x ps sp) (hr : RoomH k X.A) (hg : Gl X x) (ha : PA X (e :: es) t)
    (he : starEach (e :: es) X.env = (false, eval e X.env) :: starEach es X.env := by rfl) (hpl : (backTo pos (starEach es X.env)).any (·.1) = false := by rfl) (hd : (x == ("__debug__" : Str)) = false := by decide) : PE X (.Call (.Name x p) (e :: es) [] pos) (tCall sp [] E0 t) := by
  obtain ⟨f, fd, F, b, kp, m⟩ := C
  intro pins s σ H Q I h
  refine wpAny_Call_Name_kw (ld_glob I hg m (PySem.W.callWith_K (h₀ := X.base) I.ok.mod.kin kp (thn (ha pos pins s σ H _ I h) fun us s1 ⟨vs, H1, I1, r, q⟩ => ⟨I1.kIn, ?_⟩) he hpl) hd)
  have q : sp vs H1 Q E0 := by dsimp only at q; rw [List.append_nil] at q; exact q
  have hl : (us ++ []).length = ps.length := by rw [List.append_nil, ← r.length]; exact F.len _ _ _ _ q
  have bd := b s1 us I1.kIn hl
  rw [List.append_nil] at bd
  refine wpAny_call (codeAny_mono (F.run X.A X.stack s1 H1 ⟨us, []⟩ us vs Q E0 hr I1.env0 bd r q) fun r s' hq => ?_)
  rcases r with er | fl
  · exact hq.elim
  · cases fl with
    | ret u => exact I1.after hq
    | _ => exact hq.elim
end
end L2


set_option linter.all false
set_option maxRecDepth 100000
namespace L2
open PySem PySem.Spec PyProof.Rows

/-! ### lists of pairs as tables -/
section
variable {κ : Type} [DecidableEq κ]
def valV (kvs : List (κ × V)) (k : κ) : Option V := (kvs.find? fun kv => decide (kv.1 = k)).map (·.2)
/-- in its place, or at the end -/
def putK (kvs : List (κ × V)) (k : κ) (v : V) : List (κ × V) :=
  if (kvs.any fun kv => decide (kv.1 = k)) = true then kvs.map (fun kv => if kv.1 = k then (kv.1, v) else kv) else kvs ++ [(k, v)]
def dropK (kvs : List (κ × V)) (k : κ) : List (κ × V) := kvs.filter fun kv => decide (kv.1 ≠ k)

theorem valV_pos {p : κ × V} {r : List (κ × V)} {k : κ} (e : p.1 = k) : valV (p :: r) k = some p.2 := by simp [valV, List.find?_cons, e]
theorem valV_neg {p : κ × V} {r : List (κ × V)} {k : κ} (e : ¬ p.1 = k) : valV (p :: r) k = valV r k := by simp [valV, List.find?_cons, e]
theorem valV_any (k : κ) : ∀ kvs : List (κ × V), (kvs.any fun kv => decide (kv.1 = k)) = (valV kvs k).isSome
  | [] => rfl
  | p :: r => by
    rw [List.any_cons]
    by_cases e : p.1 = k
    · simp only [valV_pos e, decide_eq_true e, Bool.true_or, Option.isSome_some]
    · rw [valV_neg e, decide_eq_false e, Bool.false_or]; exact valV_any k r
theorem length_putK (kvs : List (κ × V)) (k : κ) (v : V) : (putK kvs k v).length ≤ kvs.length + 1 := by
  unfold putK
  split
  · rw [List.length_map]; omega
  · rw [List.length_append, List.length_cons, List.length_nil]; omega
theorem RelO.isSome_eq {o : Option V} {u : Option Value} (r : RelO o u) : o.isSome = u.isSome := by
  cases o with
  | none => cases u with
    | none => rfl
    | some _ => exact (show False from r).elim
  | some _ => cases u with
    | none => exact (show False from r).elim
    | some _ => rfl
theorem RelO.getD {o : Option V} {u : Option Value} {d : V} {d' : Value} (r : RelO o u) (rd : RelV d d') : RelV (o.getD d) (u.getD d') := by
  cases o with
  | none => cases u with
    | none => exact rd
    | some _ => exact (show False from r).elim
  | some _ => cases u with
    | none => exact (show False from r).elim
    | some _ => exact r

/-- raw tables of the same keys -/
theorem KV.val {kvs : List (κ × V)} {vs : List (κ × Value)} (r : KV kvs vs) (k : κ) : RelO (valV kvs k) (valueAt vs k) := by
  unfold KV at r
  induction r with
  | nil => exact True.intro
  | @cons p q ps qs h t ih =>
    obtain ⟨h1, h2⟩ := h
    by_cases e : p.1 = k
    · have e' : q.1 = k := h1.symm.trans e
      have b : valueAt (q :: qs) k = some q.2 := by simp [valueAt, List.find?_cons, e']
      rw [valV_pos e, b]; exact h2
    · have e' : ¬ q.1 = k := fun z => e (h1.trans z)
      have b : valueAt (q :: qs) k = valueAt qs k := by simp [valueAt, List.find?_cons, e']
      rw [valV_neg e, b]; exact ih
theorem KV.any {kvs : List (κ × V)} {vs : List (κ × Value)} (r : KV kvs vs) (k : κ) : (kvs.any fun kv => decide (kv.1 = k)) = vs.any fun kv => decide (kv.1 = k) := by
  unfold KV at r
  induction r with
  | nil => rfl
  | cons h t ih => rw [List.any_cons, List.any_cons, ih, h.1]
theorem KV.repl {kvs : List (κ × V)} {vs : List (κ × Value)} (r : KV kvs vs) (k : κ) {y : V} {u : Value} (ry : RelV y u) :
    KV (kvs.map fun kv => if kv.1 = k then (kv.1, y) else kv) (vs.map fun kv => if kv.1 = k then (kv.1, u) else kv) := by
  unfold KV at r ⊢
  induction r with
  | nil => exact .nil
  | @cons p q ps qs h t ih =>
    rw [List.map_cons, List.map_cons]
    refine .cons ?_ ih
    obtain ⟨h1, h2⟩ := h
    by_cases e : p.1 = k
    · rw [if_pos e, if_pos (h1.symm.trans e)]; exact ⟨h1, ry⟩
    · rw [if_neg e, if_neg (fun z => e (h1.trans z))]; exact ⟨h1, h2⟩
theorem KV.put {kvs : List (κ × V)} {vs : List (κ × Value)} (r : KV kvs vs) (k : κ) {y : V} {u : Value} (ry : RelV y u) : KV (putK kvs k y) (stored vs k u) := by
  unfold putK stored
  rw [r.any k]
  by_cases e : (vs.any fun kv => decide (kv.1 = k)) = true
  · rw [if_pos e, if_pos e]; exact r.repl k ry
  · rw [if_neg e, if_neg e]; exact Paired.snoc r ⟨rfl, ry⟩
theorem KV.drop {kvs : List (κ × V)} {vs : List (κ × Value)} (r : KV kvs vs) (k : κ) : KV (dropK kvs k) (without vs k) := by
  unfold KV at r ⊢
  unfold dropK without
  induction r with
  | nil => exact .nil
  | @cons p q ps qs h t ih =>
    obtain ⟨h1, h2⟩ := h
    rw [List.filter_cons, List.filter_cons]
    by_cases e : p.1 = k
    · have a : ¬ decide (p.1 ≠ k) = true := by simp [e]
      have b : ¬ decide (q.1 ≠ k) = true := by simp [h1.symm.trans e]
      rw [if_neg a, if_neg b]; exact ih
    · have e' : ¬ q.1 = k := fun z => e (h1.trans z)
      have a : decide (p.1 ≠ k) = true := by simp [e]
      have b : decide (q.1 ≠ k) = true := by simp [e']
      rw [if_pos a, if_pos b]; exact .cons ⟨h1, h2⟩ ih
theorem KV.keys {kvs : List (κ × V)} {vs : List (κ × Value)} (r : KV kvs vs) : kvs.map (·.1) = vs.map (·.1) := by
  unfold KV at r
  induction r with
  | nil => rfl
  | cons h t ih => rw [List.map_cons, List.map_cons, ih, h.1]
theorem KV.length {kvs : List (κ × V)} {vs : List (κ × Value)} (r : KV kvs vs) : kvs.length = vs.length := Paired.length r
end


/-! ### a tracked dict, its keys ints and texts or tuples of these -/
theorem kV_is {P : Program} {w : World} {k : Key} {u : Value} (r : RelV (kV k) u) : (mixKind P w).is k u = true := by
  cases k with
  | inl i => obtain ⟨t, e⟩ := (show ∃ t, u = Value.int i t from r); subst e; exact mixKind_int P w i t
  | inr x => obtain ⟨t, e⟩ := (show ∃ t, u = Value.str x t from r); subst e; exact mixKind_str P w x t
theorem items_are {P : Program} {w : World} : ∀ {ks : List Key} {us : List Value}, Vals (ks.map kV) us → ItemsAre (mixKind P w) ks us
  | [], _, r => by rw [List.map_nil] at r; cases r; exact .nil
  | k :: ks, _, r => by
    rw [List.map_cons] at r
    cases r with
    | cons h t => exact .cons (kV_is h) (items_are t)

/-- raw entries of a dict with tuple keys -/
abbrev KT (H : Hp) : List (List Key × V) → List (List Key × Addr × Value) → Prop := Paired fun p q => p.1 = q.1 ∧ H q.2.1 = some (.tup (p.1.map kV)) ∧ RelV p.2 q.2.2
theorem KT.val {H : Hp} {kvs : List (List Key × V)} {xs : List (List Key × Addr × Value)} (r : KT H kvs xs) (k : List Key) : RelO (valV kvs k) ((atKey xs k).map (·.2)) := by
  induction r with
  | nil => exact True.intro
  | @cons p q ps qs h t ih =>
    obtain ⟨h1, _, h2⟩ := h
    by_cases e : p.1 = k
    · have e' : q.1 = k := h1.symm.trans e
      have b : atKey (q :: qs) k = some q.2 := by simp [atKey, List.find?_cons, e']
      rw [valV_pos e, b]; exact h2
    · have e' : ¬ q.1 = k := fun z => e (h1.trans z)
      have b : atKey (q :: qs) k = atKey qs k := by simp [atKey, List.find?_cons, e']
      rw [valV_neg e, b]; exact ih
theorem KT.repl {H : Hp} {kvs : List (List Key × V)} {xs : List (List Key × Addr × Value)} (r : KT H kvs xs) (k : List Key) {y : V} {u : Value} (ry : RelV y u) :
    KT H (kvs.map fun kv => if kv.1 = k then (kv.1, y) else kv) (xs.map (putAt k u)) := by
  induction r with
  | nil => exact .nil
  | @cons p q ps qs h t ih =>
    rw [List.map_cons, List.map_cons]
    refine .cons ?_ ih
    obtain ⟨h1, h2, h3⟩ := h
    unfold putAt
    by_cases e : p.1 = k
    · rw [if_pos e, if_pos (h1.symm.trans e)]; exact ⟨h1, h2, ry⟩
    · rw [if_neg e, if_neg (fun z => e (h1.trans z))]; exact ⟨h1, h2, h3⟩
theorem KT.put {H : Hp} {kvs : List (List Key × V)} {xs : List (List Key × Addr × Value)} (r : KT H kvs xs) (k : List Key) {b : Addr} {y : V} {u : Value} (hb : H b = some (.tup (k.map kV))) (ry : RelV y u) :
    KT H (putK kvs k y) (storedH xs k b u) := by
  have e : (kvs.any fun kv => decide (kv.1 = k)) = (atKey xs k).isSome := by
    rw [valV_any, (r.val k).isSome_eq, Option.isSome_map]
  unfold putK storedH
  rw [e]
  by_cases q : (atKey xs k).isSome = true
  · rw [if_pos q, if_pos q]; exact r.repl k ry
  · rw [if_neg q, if_neg q]; exact Paired.snoc r ⟨rfl, hb, ry⟩
theorem KT.keeps {H H' : Hp} {kvs : List (List Key × V)} {xs : List (List Key × Addr × Value)} (r : KT H kvs xs) (ht : ∀ b ys, H b = some (.tup ys) → H' b = some (.tup ys)) : KT H' kvs xs :=
  Paired.mapP r fun _ _ z => ⟨z.1, ht _ _ z.2.1, z.2.2⟩

section
variable {P : Program} {w : World} {H : Hp} {h : Heap} {a : Addr}
theorem rd_of {u : HO} (ok : HOk P w H h) (e : Rd H a u) : ObjOk P w H h a u := e.ok ok
theorem dk_rd {kvs : List (Key × V)} (ok : HOk P w H h) (e : Rd H a (.dK kvs)) : kvs.length ≤ sizeLine ∧ (a == sysModules) = false ∧ ∃ vs, KV kvs vs ∧ h.DictOf (mixKind P w) a vs :=
  show ObjOk P w H h a (.dK kvs) from rd_of ok e
theorem dk_of {kvs : List (Key × V)} (ok : HOk P w H h) (e : H a = some (.dK kvs)) : kvs.length ≤ sizeLine ∧ (a == sysModules) = false ∧ ∃ vs, KV kvs vs ∧ h.DictOf (mixKind P w) a vs := dk_rd ok (.inl e)
/-- a tracked tuple of ints and texts is a key -/
theorem key_of {ks : List Key} (ok : HOk P w H h) (e : H a = some (.tup (ks.map kV))) : (tupleKind (mixKind P w)).is h ks a := by
  obtain ⟨_, its, r, o, h1, h2, n, h3⟩ := (show ObjOk P w H h a (.tup (ks.map kV)) from ok a _ e)
  exact ⟨o, its.toArray, n, h1, h2, h3, by simpa using items_are r⟩
theorem dt_rd {kvs : List (List Key × V)} (ok : HOk P w H h) (e : Rd H a (.dT kvs)) : kvs.length ≤ sizeLine ∧ (a == sysModules) = false ∧
    ∃ xs, KT H kvs xs ∧ h.DictOfH (tupleKind (mixKind P w)) a xs := by
  obtain ⟨z, y, xs, r, o, es, ep, h1, h2, h3, h4, h5⟩ := (show ObjOk P w H h a (.dT kvs) from rd_of ok e)
  refine ⟨z, y, xs, r, o, es, ep, h1, h2, h3, h4, fun x hx => ?_, h5⟩
  have all : ∀ {l : List (List Key × V)} {m : List (List Key × Addr × Value)}, KT H l m → ∀ x ∈ m, (tupleKind (mixKind P w)).is h x.1 x.2.1 := by
    intro l m q
    induction q with
    | nil => intro x hx; exact nomatch hx
    | @cons p q ps qs hq t ih =>
      intro x hx
      rcases List.mem_cons.mp hx with e | hx
      · subst e
        exact key_of ok (by rw [← hq.1]; exact hq.2.1)
      · exact ih x hx
  exact all r x hx
theorem dt_of {kvs : List (List Key × V)} (ok : HOk P w H h) (e : H a = some (.dT kvs)) : kvs.length ≤ sizeLine ∧ (a == sysModules) = false ∧
    ∃ xs, KT H kvs xs ∧ h.DictOfH (tupleKind (mixKind P w)) a xs := dt_rd ok (.inl e)
end

/-- what the dict at a holds at the key y -/
def DGet (H : Hp) (a : Addr) (y : V) (r : Option V) : Prop :=
  (∃ kvs k, Rd H a (.dK kvs) ∧ y = kV k ∧ r = valV kvs k) ∨ ∃ kvs k b, Rd H a (.dT kvs) ∧ y = .ref b ∧ H b = some (.tup (k.map kV)) ∧ r = valV kvs k
/-- the heap behind a[y] = v -/
def DPut (H : Hp) (a : Addr) (y v : V) (H' : Hp) : Prop :=
  (∃ kvs k, H a = some (.dK kvs) ∧ y = kV k ∧ kvs.length < sizeLine ∧ H' = upd H a (.dK (putK kvs k v))) ∨
  ∃ kvs k b, H a = some (.dT kvs) ∧ y = .ref b ∧ H b = some (.tup (k.map kV)) ∧ kvs.length < sizeLine ∧ H' = upd H a (.dT (putK kvs k v))
theorem DGet.k {H : Hp} {a : Addr} {kvs : List (Key × V)} {k : Key} (e : H a = some (.dK kvs)) : DGet H a (kV k) (valV kvs k) := .inl ⟨kvs, k, .inl e, rfl, rfl⟩
theorem DGet.t {H : Hp} {a b : Addr} {kvs : List (List Key × V)} {k : List Key} (e : H a = some (.dT kvs)) (eb : H b = some (.tup (k.map kV))) : DGet H a (.ref b) (valV kvs k) := .inr ⟨kvs, k, b, .inl e, rfl, eb, rfl⟩
theorem DPut.k {H : Hp} {a : Addr} {kvs : List (Key × V)} {k : Key} {v : V} (e : H a = some (.dK kvs)) (hl : kvs.length < sizeLine) : DPut H a (kV k) v (upd H a (.dK (putK kvs k v))) := .inl ⟨kvs, k, e, rfl, hl, rfl⟩
theorem DPut.t {H : Hp} {a b : Addr} {kvs : List (List Key × V)} {k : List Key} {v : V} (e : H a = some (.dT kvs)) (eb : H b = some (.tup (k.map kV))) (hl : kvs.length < sizeLine) :
    DPut H a (.ref b) v (upd H a (.dT (putK kvs k v))) := .inr ⟨kvs, k, b, e, rfl, eb, hl, rfl⟩


section
variable {X : Cx} {pins : List (Addr × Obj)} {σ : St} {H : Hp} {s : Shared} {a : Addr} {y v : V} {u r : Value} {o : Option V} {A : Around} {E : Value → Shared → Prop}

theorem Inv.big (I : Inv X pins σ H s) : sysModules < s.heap.objs.size := by
  have h : mainGlobals < s.heap.objs.size := (I.mod.glob.keeps I.bk).lt
  exact Nat.lt_trans (by decide) h

/-- y in d -/
theorem d_in {Q : Value → Shared → Prop} (hu : A.units + 1 < cLine) (I : Inv X pins σ H s) (g : DGet H a y o) (ry : RelV y u) (h : ∀ s', Inv X pins σ H s' → Q (.bool o.isSome) s') :
    wpAny (model X.prog X.w) A (compareOp .In u (.ref a)) Q E s := by
  rcases g with ⟨kvs, k, e, ey, l⟩ | ⟨kvs, k, b, e, ey, eb, l⟩
  · subst ey
    obtain ⟨z, hd, vs, rel, dd⟩ := dk_rd I.hok e
    refine wpAny_in_of (kV_is ry) hd dd.mapOf ?_
    rw [← (rel.val k).isSome_eq, ← l]
    exact h _ (I.tok _)
  · subst ey
    cases (show u = Value.ref b from ry)
    obtain ⟨z, hd, xs, rel, dd⟩ := dt_rd I.hok e
    refine wpAny_in_heap (tupleKind_room_in1 hu) (key_of I.hok eb) hd dd ?_
    have q := (rel.val k).isSome_eq
    rw [Option.isSome_map] at q
    rw [← q, ← l]
    exact h _ (I.tok _)
/-- a dict's object is replaced -/
theorem d_write {h' : Heap} {t' : Nat} {ob : HO} (I : Inv X pins σ H s) (mu : Mut (H a)) (hs : Heap.SameBut a s.heap h') (he : ∃ q, h'.get? a = some q) (new : ObjOk X.prog X.w (upd H a ob) h' a ob) (ht : 0 < t' := by first | assumption | exact Nat.succ_pos _ | (apply Inv.tk; assumption) | omega) :
    Inv X pins σ (upd H a ob) { s with heap := h', toks := t' } :=
  I.write (x := a) (e := a) mu (.inl rfl) (fun b q hb z => (hs.2 b hb).trans z) he new
theorem dk_new {P : Program} {w : World} {H' : Hp} {h' : Heap} {kvs : List (Key × V)} {vs : List (Key × Value)} (z : kvs.length ≤ sizeLine) (hd : (a == sysModules) = false) (rel : KV kvs vs) (dd : h'.DictOf (mixKind P w) a vs) :
    ObjOk P w H' h' a (.dK kvs) := ⟨z, hd, vs, rel, dd⟩
/-- d[y] = v -/
theorem d_setItem {H' : Hp} {Q : Unit → Shared → Prop} (hu : A.units + 1 < cLine) (I : Inv X pins σ H s) (g : DPut H a y v H') (ry : RelV y u) (rv : RelV v r) (h : ∀ s', Inv X pins σ H' s' → Q () s') :
    wpAny (model X.prog X.w) A (setItem (.ref a) u r) Q E s := by
  rcases g with ⟨kvs, k, e, ey, l, eH⟩ | ⟨kvs, k, b, e, ey, eb, l, eH⟩
  · subst ey eH
    obtain ⟨z, hd, vs, rel, dd⟩ := dk_of I.hok e
    have hz : vs.length ≤ sizeLine := by rw [← rel.length]; exact z
    have hl : (putK kvs k v).length ≤ sizeLine := by have := length_putK kvs k v; omega
    refine wpAny_setItem_pairs (hsz := hz) (kV_is ry) dd fun h' dd' hs => h _ ?_
    have he : ∃ q, h'.get? a = some q := let ⟨q, _, _, hq, _⟩ := dd'; ⟨q, hq⟩
    exact d_write I (by rw [e]; exact True.intro) hs he (dk_new hl hd (rel.put k rv) dd')
  · subst ey eH
    cases (show u = Value.ref b from ry)
    obtain ⟨z, hd, xs, rel, dd⟩ := dt_of I.hok e
    have hz : xs.length ≤ sizeLine := by rw [← Paired.length rel]; exact z
    have hl : (putK kvs k v).length ≤ sizeLine := by have := length_putK kvs k v; omega
    refine wpAny_setItem_heap (hsz := hz) (tupleKind_room_in1 hu) (key_of I.hok eb) dd fun h' dd' hs => h _ ?_
    obtain ⟨q, es, ep, hq, h2, h3, h4, _, h5⟩ := dd'
    refine d_write I (by rw [e]; exact True.intro) hs ⟨q, hq⟩ ⟨hl, hd, _, (rel.put k eb rv).keeps fun c ys ec => ?_, q, es, ep, hq, h2, h3, h4, h5⟩
    rw [upd_ne (ne_of ec e (fun z => nomatch z))]
    exact ec
end

section
variable {X : Cx} {pins : List (Addr × Obj)} {σ : St} {H : Hp} {s : Shared} {a : Addr} {kvs : List (Key × V)} {k : Key} {u : Value} {A : Around} {E : Value → Shared → Prop}
end


/-! ### readings and rules -/
/-- y in d, y not in d -/
def tDIn (ty td : TE) : TE := fun σ H Q => ty σ H fun y H1 => td σ H1 fun x H2 => ∃ a o, x = .ref a ∧ DGet H2 a y o ∧ Q (.bl o.isSome) H2
/-- d[y] = v -/
def sDPut (td ty tv : TE) : TS := fun D σ H => tv σ H fun v H1 => td σ H1 fun x H2 => ty σ H2 fun y H3 => ∃ a H4, x = .ref a ∧ DPut H3 a y v H4 ∧ D.nx σ H4
section
variable {X : Cx} {o i e value : Expr} {pos pos' tpos : Pos} {td ty tv : TE}
theorem pc_din (hu : X.A.units + 1 < cLine) (hi : PE X i ty) (ho : PE X o td) : PC X .In i o (tDIn ty td) := by
  intro pins s σ H Q I h
  refine thn (hi pins s σ H _ I h) fun iv s1 ⟨y, H1, I1, ry, q1⟩ => thn (ho pins s1 σ H1 _ I1 q1) fun u s2 ⟨x, H2, I2, rx, a, ov, ex, g, q2⟩ => ?_
  subst ex
  obtain rfl : u = Value.ref a := rx
  exact d_in hu I2 g ry fun s3 I3 => ⟨.bl ov.isSome, H2, I3, rfl, q2⟩
theorem ps_dput (hu : X.A.units + 1 < cLine) (ho : PE X o td) (hi : PE X i ty) (hv : PE X value tv) (hs : swapsWith value (some (.Subscript o i pos')) pos.line X.env = pure false) :
    PS X (.Assign [.Subscript o i pos'] value pos) (sDPut td ty tv) := by
  intro pins s σ H D I h
  refine wpAny_Assign_Subscript (thn (hv pins s σ H _ I h) fun r s1 ⟨v, H1, I1, rv, q1⟩ => thn (ho pins s1 σ H1 _ I1 q1) fun u s2 ⟨x, H2, I2, rx, q2⟩ => thn (hi pins s2 σ H2 _ I2 q2) fun iv s3 ⟨y, H3, I3, ry, a, H4, ex, g, q3⟩ => ?_) hs
  subst ex
  obtain rfl : u = Value.ref a := rx
  exact d_setItem hu I3 g ry rv fun s4 I4 => ⟨σ, H4, I4, q3⟩
end


/-! ### displays -/
theorem dk_empty {P : Program} {w : World} {H : Hp} (h : Heap) (hb : sysModules < h.objs.size) : ObjOk P w H (h.push { cls := .type "dict", data := .dict #[] }) h.objs.size (.dK []) :=
  ⟨Nat.zero_le _, beq_eq_false_iff_ne.mpr (Ne.symm (Nat.ne_of_lt hb)), [], .nil, Heap.DictOf.new h⟩
/-- {}, to be a dict of the kind that is wanted -/
def tDNewK : TE := fun _ H Q => ∀ p, H p = none → Q (.ref p) (upd H p (.dK []))
section
variable {X : Cx} {pos : Pos}
theorem pe_dnewK : PE X (.Dict [] [] pos) tDNewK := fun pins s σ H Q I h =>
  wpAny_Dict_empty ⟨.ref s.heap.objs.size, _, I.laid (a := s.heap.objs.size) (o := .dK []) (t' := s.toks) (fun _ _ q => Heap.get?_push_of_some _ q) (Nat.le_refl _) (dk_empty s.heap I.big), rfl, h _ (I.hok.fresh (Nat.le_refl _))⟩
end

/-! ### methods -/
/-- a method call o.m(e) of a built-in, with one argument: what must be seen of the text -/
structure M1 (X : Cx) (o : Expr) (m : Str) (apos : Pos) (e : Expr) (cpos : Pos) : Prop where
  base : attributeBase o m X.env (eval o X.env) = eval o X.env
  few : ((backTo cpos (starEach [e] X.env)).all (fun x => !x.1) && (backToKw cpos (keywordEach [] X.env)).all (fun x => x.1.isSome)
    && decide (([e] : List Expr).length + ([] : List Keyword).length + (if ([] : List Keyword).isEmpty then 0 else 1) < 30)) = true
  line : (apos.endLine == cpos.line) = true
  trees : backTo cpos (starEach [e] X.env) = [(false, eval e X.env)]
structure M2 (X : Cx) (o : Expr) (m : Str) (apos : Pos) (e f : Expr) (cpos : Pos) : Prop where
  base : attributeBase o m X.env (eval o X.env) = eval o X.env
  few : ((backTo cpos (starEach [e, f] X.env)).all (fun x => !x.1) && (backToKw cpos (keywordEach [] X.env)).all (fun x => x.1.isSome)
    && decide (([e, f] : List Expr).length + ([] : List Keyword).length + (if ([] : List Keyword).isEmpty then 0 else 1) < 30)) = true
  line : (apos.endLine == cpos.line) = true
  trees : backTo cpos (starEach [e, f] X.env) = [(false, eval e X.env), (false, eval f X.env)]

/-- a is a dict, whatever its keys -/
def IsD (H : Hp) (a : Addr) : Prop := (∃ kvs, Rd H a (.dK kvs)) ∨ ∃ kvs, Rd H a (.dT kvs)
theorem isD_at {X : Cx} {pins : List (Addr × Obj)} {σ : St} {H : Hp} {s : Shared} {a : Addr} (I : Inv X pins σ H s) (d : IsD H a) :
    s.TypeIs (.ref a) "dict" ∧ (∀ b, Value.ref a = .ref b → ∃ ob, s.heap.get? b = some ob ∧ ob.dict = none) ∧ (a == sysModules) = false := by
  rcases d with ⟨kvs, e⟩ | ⟨kvs, e⟩
  · obtain ⟨_, hd, vs, _, dd⟩ := dk_rd I.hok e
    refine ⟨dd.typeIs, fun b q => ?_, hd⟩
    cases q
    obtain ⟨ob, _, _, h1, h2, _⟩ := dd
    exact ⟨ob, h1, h2.2.1⟩
  · obtain ⟨_, hd, xs, _, dd⟩ := dt_rd I.hok e
    refine ⟨dd.typeIs, fun b q => ?_, hd⟩
    cases q
    obtain ⟨ob, _, _, h1, h2, _⟩ := dd
    exact ⟨ob, h1, h2.2.1⟩

section
variable {X : Cx} {pins : List (Addr × Obj)} {σ : St} {H : Hp} {s : Shared} {a : Addr} {y d : V} {u r : Value} {o : Option V} {A : Around} {E : Value → Shared → Prop}
/-- d.get(y, x) -/
theorem d_get2 {Q : Value → Shared → Prop} (hu : A.units + 1 < cLine) (I : Inv X pins σ H s) (g : DGet H a y o) (ry : RelV y u) (rd : RelV d r) (h : ∀ w' s', Inv X pins σ H s' → RelV (o.getD d) w' → Q w' s') :
    wpAny (model X.prog X.w) A (call (.builtin "dict.get") [.ref a, u, r]) Q E s := by
  rcases g with ⟨kvs, k, e, ey, l⟩ | ⟨kvs, k, b, e, ey, eb, l⟩
  · subst ey
    obtain ⟨z, hd, vs, rel, dd⟩ := dk_rd I.hok e
    refine call_meetsIn PySem.F.slot_dict_get dd.typeIs PySem.F.entry_dict_get (PySem.F.args_dict_get_3 _ _ _) (meets_dict_get_default (mixKind X.prog X.w) a (kV_is ry) hd r) ⟨_, dd.mapOf, h _ _ (I.tok _) ?_⟩
    rw [l]
    exact (rel.val k).getD rd
  · subst ey
    cases (show u = Value.ref b from ry)
    obtain ⟨z, hd, xs, rel, dd⟩ := dt_rd I.hok e
    refine call_meetsIn PySem.F.slot_dict_get dd.typeIs PySem.F.entry_dict_get (PySem.F.args_dict_get_3 _ _ _) (meetsH_dict_get_default (tupleKind (mixKind X.prog X.w)) a b hd r) ⟨tupleKind_room_in1 hu, k, xs, key_of I.hok eb, dd, h _ _ (I.tok _) ?_⟩
    rw [l]
    exact (rel.val k).getD rd
end

def tDGet2 (td ty tx : TE) : TE := fun σ H Q => td σ H fun x H1 => ∃ a, x = .ref a ∧ IsD H1 a ∧ ty σ H1 fun y H2 => tx σ H2 fun z H3 => ∃ o, DGet H3 a y o ∧ Q (o.getD z) H3
section
variable {X : Cx} {o e f : Expr} {apos cpos : Pos} {td ty tx : TE}
theorem pe_dget2 (hu : X.A.units + 1 < cLine) (ho : PE X o td) (he : PE X e ty) (hf : PE X f tx) (m : M2 X o "get" apos e f cpos) : PE X (.Call (.Attribute o "get" apos) [e, f] [] cpos) (tDGet2 td ty tx) := by
  intro pins s σ H Q I h
  refine wpAny_Call_method m.base m.few m.line PySem.F.plainAttrs_dict PySem.F.slot_dict_get PySem.F.type_dict_get (thn (ho pins s σ H _ I h) fun u s1 ⟨x, H1, I1, rx, a, ex, d, q1⟩ => ?_)
  subst ex
  obtain rfl : u = Value.ref a := rx
  obtain ⟨t1, t2, _⟩ := isD_at I1 d
  refine ⟨t1, t2, ?_⟩
  rw [m.trees]
  refine Calls.callWith_builtin rfl (Calls.evalArgs_plain (Calls.spliced_cons (thn (he pins s1 σ H1 _ I1 q1) fun iv s2 ⟨y, H2, I2, ry, q2⟩ =>
    Calls.spliced_cons (thn (hf pins s2 σ H2 _ I2 q2) fun fv s3 ⟨z, H3, I3, rz, ov, g, q3⟩ => Calls.spliced_nil ?_))))
  exact d_get2 hu I3 g ry rz fun w' s4 I4 rw' => ⟨_, H3, I4, rw', q3⟩
end

/-! ### dict(d): a copy -/
section
variable {X : Cx} {pins : List (Addr × Obj)} {σ : St} {H : Hp} {s : Shared} {a : Addr} {kvs : List (Key × V)} {A : Around} {E : Value → Shared → Prop}
end


section
variable {X : Cx} {pins : List (Addr × Obj)} {σ : St} {H : Hp} {s : Shared} {a : Addr} {y : V} {u : Value} {A : Around} {E : Value → Shared → Prop}
end
end L2

namespace L2
open PySem PySem.Spec PyProof.Rows
section
variable {X : Cx}
end
end L2
namespace L2
open PySem PySem.Spec PyProof.Rows
/-! ### a dict's pairs: keys that differ -/
section
variable {κ : Type} [DecidableEq κ]
end
end L2


set_option linter.all false
namespace L2
open PySem PySem.Spec PyProof.Rows
/-! ### dicts, fields: readings that compute -/
section
variable {X : Cx} {o i e value : Expr} {pos pos' apos cpos : Pos} {td ty tv ta : TE}
/-- d[y] -/
def cDGet (td ty : TE) : TE := fun σ H Q => td σ H fun x H1 => ty σ H1 fun y H2 => match x with
  | .ref a => ∃ v, DGet H2 a y (some v) ∧ Q v H2
  | _ => False
/-- y in d, y not in d -/
def cDIn (neg : Bool) (ty td : TE) : TE := fun σ H Q => ty σ H fun y H1 => td σ H1 fun x H2 => match x with
  | .ref a => ∃ v, DGet H2 a y v ∧ Q (.bl (neg ^^ v.isSome)) H2
  | _ => False
theorem qt_din (hu : X.A.units + 1 < cLine) (hi : PE X i ty) (ho : PE X o td) (h1 : behindInMarks .In o = false := by rfl) : PT X (.Compare i [.In] [o] pos) (cTest (cDIn false ty td)) :=
  (pt_cmp (pc_din hu hi.mono ho.mono) h1).imp fun σ H Q q => ⟨_, q, fun y H1 z => ⟨_, z, fun x H2 z => by
    split at z
    · obtain ⟨v, g, q⟩ := z
      exact ⟨_, v, rfl, g, blK_ex (by simpa using q)⟩
    · exact z.elim⟩⟩
/-- d[y] = v -/
def cDPut (td ty tv : TE) : TS := fun D σ H => tv σ H fun v H1 => td σ H1 fun x H2 => ty σ H2 fun y H3 => match x with
  | .ref a => ∃ H4, DPut H3 a y v H4 ∧ D.nx σ H4
  | _ => False
theorem qs_dput (hu : X.A.units + 1 < cLine) (ho : PE X o td) (hi : PE X i ty) (hv : PE X value tv) (hs : swapsWith value (some (.Subscript o i pos')) pos.line X.env = pure false := by rfl) :
    PS X (.Assign [.Subscript o i pos'] value pos) (cDPut td ty tv) := fun pins s σ H D I h =>
  ps_dput hu ho.mono hi.mono hv.mono hs pins s σ H D I ⟨_, h, fun v H1 z => ⟨_, z, fun x H2 z => ⟨_, z, fun y H3 z => by
    split at z
    · obtain ⟨H4, g, q⟩ := z
      exact ⟨_, H4, rfl, g, q⟩
    · exact z.elim⟩⟩⟩
theorem a_cDGet {σ : St} {H : Hp} {Q : VK} : cDGet td ty σ H Q = td σ H fun x H1 => ty σ H1 fun y H2 => match x with
  | .ref a => ∃ v, DGet H2 a y (some v) ∧ Q v H2
  | _ => False := rfl
theorem a_cDIn {neg : Bool} {σ : St} {H : Hp} {Q : VK} : cDIn neg ty td σ H Q = ty σ H fun y H1 => td σ H1 fun x H2 => match x with
  | .ref a => ∃ v, DGet H2 a y v ∧ Q (.bl (neg ^^ v.isSome)) H2
  | _ => False := rfl
theorem a_cDPut {D : Ends} {σ : St} {H : Hp} : cDPut td ty tv D σ H = tv σ H fun v H1 => td σ H1 fun x H2 => ty σ H2 fun y H3 => match x with
  | .ref a => ∃ H4, DPut H3 a y v H4 ∧ D.nx σ H4
  | _ => False := rfl
theorem a_dNewK {σ : St} {H : Hp} {Q : VK} : tDNewK σ H Q = ∀ p, H p = none → Q (.ref p) (upd H p (.dK [])) := rfl
end
end L2


set_option linter.all false
set_option maxRecDepth 100000
namespace L2
open PySem PySem.Spec PyProof.Rows
/-! ### {v!r}, v a thing of the law's kinds -/
theorem piled_le {ts : List Str} {b : Nat} (h : ∀ t ∈ ts, t.length ≤ b) : piled ts ≤ (b + 2) * ts.length := by
  induction ts with
  | nil => simp [piled]
  | cons t r ih =>
    rw [piled_cons, List.length_cons, Nat.mul_succ]
    have := ih fun x hx => h x (List.mem_cons_of_mem _ hx)
    have := h t List.mem_cons_self
    omega
theorem textFrom_le : ∀ (ts : List Str) (k : Nat) (acc : Str), (textFrom k acc ts).length ≤ acc.length + piled ts
  | [], k, acc => by simp [textFrom, piled]
  | t :: ts, k, acc => by
    rw [textFrom, piled_cons]
    have := textFrom_le ts (k + 1) (acc ++ (if k > 0 then ", " else "" : String) ++ t)
    have e : (acc ++ (if k > 0 then ", " else "" : String) ++ t).length ≤ acc.length + 2 + t.length := by
      rw [strLen_append, strLen_append]
      split
      · exact Nat.le_refl _
      · show acc.length + 0 + t.length ≤ _; omega
    omega
theorem listText_le {ts : List Str} {b : Nat} (h : ∀ t ∈ ts, t.length ≤ b) : (listText ts).length ≤ (b + 2) * ts.length + 2 := by
  unfold listText
  rw [strLen_append]
  have h1 := textFrom_le ts 0 "["
  have h2 := piled_le h
  have e1 : ("[" : Str).length = 1 := rfl
  have e2 : ("]" : Str).length = 1 := rfl
  omega
theorem tupleText_le {ts : List Str} {b : Nat} (h : ∀ t ∈ ts, t.length ≤ b) : (tupleText ts).length ≤ (b + 2) * ts.length + 3 := by
  unfold tupleText
  rw [strLen_append, strLen_append]
  have h2 := piled_le h
  have e1 : ("(" : Str).length = 1 := rfl
  have e3 : ((if ts.length == 1 then ",)" else ")" : String) : Str).length ≤ 2 := by split <;> decide
  by_cases hn : ts = []
  · subst hn
    have : (Str.join ", " ([] : List Str)).length = 0 := rfl
    omega
  · have := join_length_add ts hn
    omega
section
variable {X : Cx} {e : Expr} {te : TE} {pos : Pos}
/-- texts with their signs, not too long -/
def Few (ls : List (List Nat)) : Prop := ls.length ≤ 100 ∧ ∀ l ∈ ls, l.length ≤ 100 ∧ ∀ c ∈ l, c < 16 ^ 8
def cFmtA (tv : TE) : TE := fun σ H Q => tv σ H fun x H1 => match x with
  | .non => ∀ z : Str, z.length ≤ 200000 → Q (.str z) H1
  | .bl _ => ∀ z : Str, z.length ≤ 200000 → Q (.str z) H1
  | .int i => (i = 0 ∨ i = 10) ∧ ∀ z : Str, z.length ≤ 200000 → Q (.str z) H1
  | .str y => (∀ c ∈ y.cps.toList, c < 16 ^ 8) ∧ y.length ≤ 10000 ∧ ∀ z : Str, z.length ≤ 200000 → Q (.str z) H1
  | .ref p => ∃ ls, Few ls ∧ (H1 p = some (.lst (ls.map fun l => V.str (st l))) ∨ H1 p = some (.tup (ls.map fun l => V.str (st l)))) ∧ ∀ z : Str, z.length ≤ 200000 → Q (.str z) H1
  | _ => False
theorem few_repr {ls : List (List Nat)} (h : Few ls) : ∀ t ∈ ls.map fun l => reprText (st l), t.length ≤ 1002 := fun t ht => by
  obtain ⟨l, hl, rfl⟩ := List.mem_map.mp ht
  obtain ⟨h1, h2⟩ := h.2 l hl
  have := PySem.StrLaws.reprText_len (st l) (by rw [st_cps]; exact h2)
  have e : (st l).length = l.length := by simp [Str.length]
  omega
theorem vals_txt : ∀ {ls : List (List Nat)} {us : List Value}, Vals (ls.map fun l => V.str (st l)) us → ∃ _ : List Nat, us.length = ls.length ∧ ∀ (i : Nat) u, us[i]? = some u → ∃ l t, ls[i]? = some l ∧ u = Value.str (st l) t
  | [], _, .nil => ⟨[], rfl, fun i u h => by simp at h⟩
  | l :: ls, _, .cons r t => by
    obtain ⟨ts, h1, h2⟩ := vals_txt t
    obtain ⟨tk, rfl⟩ := r
    refine ⟨[], by rw [List.length_cons, List.length_cons, h1], fun i u h => ?_⟩
    cases i with
    | zero => simp only [List.getElem?_cons_zero, Option.some.injEq] at h; exact ⟨l, tk, rfl, h.symm⟩
    | succ i => rw [List.getElem?_cons_succ] at h; exact h2 i u h
theorem pe_fmtA (hgd : X.A.guards = some []) (hu : X.A.units < cLine) (hv : PE X e te) : PE X (.FormattedValue e 114 none pos) (cFmtA te) := by
  intro pins s σ H Q I q
  refine wpAny_FormattedValue_repr (thn (hv pins s σ H _ I q) fun u s1 ⟨x, H1, I1, r, z⟩ => ?_)
  dsimp only at z
  have fin : ∀ (y : Str) (h' : Heap) (tk : Nat), 0 < tk → (∀ b o, s1.heap.get? b = some o → h'.get? b = some o) → y.length ≤ 200000 → (∀ z : Str, z.length ≤ 200000 → Q (.str z) H1) → ∀ u, wpAny (model X.prog X.w) X.A (formatField (.str y u) Str.empty) (EP X pins σ Q) X.xe { s1 with heap := h', toks := tk } :=
    fun y h' tk htk kp hy z u => tokQ htk (formatField_str (fun t' tk' (htk' : 0 < tk') => ⟨.str y, H1, I1.kept kp, ⟨_, rfl⟩, z y hy⟩) (Nat.le_trans hy (by decide)))
  have same : ∀ b o, s1.heap.get? b = some o → s1.heap.get? b = some o := fun _ _ e => e
  split at z
  · cases r
    exact pyReprObj_none (fin _ s1.heap _ (Nat.succ_pos _) same (by decide) z _)
  · rename_i b
    cases r
    exact pyReprObj_bool (fin _ s1.heap _ (Nat.succ_pos _) same (by cases b <;> decide) z _)
  · rename_i i
    obtain ⟨t, rfl⟩ := r
    obtain ⟨hi, z⟩ := z
    refine pyReprObj_int (by rcases hi with rfl | rfl <;> decide) (fin _ s1.heap _ (Nat.succ_pos _) same ?_ z _)
    rcases hi with rfl | rfl <;> decide
  · rename_i y
    obtain ⟨t, rfl⟩ := r
    obtain ⟨h1, h2, z⟩ := z
    have hl := PySem.StrLaws.reprText_len y h1
    exact wpAny_pyReprObj_str (fin _ s1.heap _ (Nat.succ_pos _) same (by omega) z _) (Nat.le_trans (by omega : (reprText y).length ≤ 200000) (by decide))
  · rename_i p
    cases r
    obtain ⟨ls, hf, hp, z⟩ := z
    have hb := few_repr hf
    have hmul : (1002 + 2) * (ls.map fun l => reprText (st l)).length + 3 ≤ 200000 := by
      rw [List.length_map]
      have := hf.1
      omega
    rcases hp with hp | hp
    · obtain ⟨_, its, n, rv, ho⟩ := I1.hok p _ hp
      obtain ⟨_, hlen, hat⟩ := vals_txt rv
      have hsz : (listText (ls.map fun l => reprText (st l))).length ≤ 200000 := by have := listText_le hb; omega
      cases its with
      | nil =>
        have e : ls = [] := by cases ls with | nil => rfl | cons _ _ => simp at hlen
        exact wpAny_pyReprObj_list_empty (s := s1) ⟨_, ho, rfl⟩ hu ho rfl (fin _ s1.heap _ (Nat.succ_pos _) same (by decide) z _)
      | cons v vs =>
        refine tokQ I1.tk (wpAny_pyReprObj_list (s := s1) (ts := ls.map fun l => reprText (st l)) ⟨_, ho, rfl⟩ hgd (fun _ _ _ hm => by cases hm) hu ho rfl (by simp only [List.length_map, List.size_toArray]; exact hlen.symm) (fun i y hy => ?_) (fun h' u tk kp (htk : 0 < tk) => fin _ h' tk htk kp hsz z u) (Nat.le_trans hsz (by decide)))
        rw [List.getElem?_toArray] at hy
        obtain ⟨l, t, hl, rfl⟩ := hat i y hy
        have hlb := hb _ (List.mem_map.mpr ⟨l, List.mem_of_getElem? hl, rfl⟩)
        exact ⟨reprText (st l), by rw [List.getElem?_map, hl]; rfl, ReprIs.str (st l) t (Nat.le_trans hlb (by decide))⟩
    · obtain ⟨_, its, rv, o, ho, hoc, n, hod⟩ := I1.hok p _ hp
      obtain ⟨_, hlen, hat⟩ := vals_txt rv
      have hsz : (tupleText (ls.map fun l => reprText (st l))).length ≤ 200000 := by have := tupleText_le hb; omega
      have all : ∀ (ls : List (List Nat)) (us : List Value), us.length = ls.length → (∀ (i : Nat) u, us[i]? = some u → ∃ l t, ls[i]? = some l ∧ u = Value.str (st l) t) → (∀ l ∈ ls, (reprText (st l)).length ≤ 1002) → ReprAll X.prog X.w us (ls.map fun l => reprText (st l)) := by
        intro ls
        induction ls with
        | nil => intro us h1 _ _; cases us with | nil => exact .nil | cons _ _ => simp at h1
        | cons l ls ih =>
          intro us h1 h2 h3
          cases us with
          | nil => simp at h1
          | cons u us =>
            obtain ⟨l', t, e1, rfl⟩ := h2 0 u rfl
            cases e1
            exact .cons (ReprIs.str (st l) t (Nat.le_trans (h3 l List.mem_cons_self) (by decide))) (ih us (by simpa using h1) (fun i u hu => h2 (i + 1) u (by simpa using hu)) fun x hx => h3 x (List.mem_cons_of_mem _ hx))
      refine tokQ I1.tk (wpAny_pyReprObj_tuple (s := s1) (ts := ls.map fun l => reprText (st l)) ⟨_, ho, hoc⟩ hgd (fun _ hm => by cases hm) hu ho hod (all ls its hlen hat fun l hl => hb _ (List.mem_map.mpr ⟨l, hl, rfl⟩)) (fun u tk (htk : 0 < tk) => fin _ s1.heap tk htk same hsz z u) (Nat.le_trans hsz (by decide)))
  · exact z.elim
end
end L2


set_option linter.all false
set_option maxRecDepth 100000
namespace L2
open PySem PySem.Spec PyProof.Rows
section
variable {X : Cx}
/-- xs.index(x), texts -/
def rIndex : V → List V → Hp → VK → Prop := fun x vs H Q => ∃ (l : Addr) (ls : List (List Nat)) (n : List Nat) (j : Nat), x = .ref l ∧ vs = [.str (st n)] ∧ H l = some (.lst (ls.map fun l => V.str (st l))) ∧ ls.length ≤ 100000 ∧ ls[j]? = some n ∧ (∀ m, m < j → ls[m]? ≠ some n) ∧ Q (.int j) H
theorem mt_index : MtR X "list.index" rIndex := by
  intro pins s σ H x vs v us Q I rx rv h
  obtain ⟨l, ls, n, j, rfl, rfl, hH, hz, hj, hno, q⟩ := h
  cases rx
  obtain ⟨u, rfl, ⟨t, rfl⟩⟩ := rv.one
  obtain ⟨z, its, k, r, hl, e⟩ := I.lstM hH
  obtain ⟨_, hlen, hat⟩ := vals_txt r
  have hjl : j < ls.length := (List.getElem?_eq_some_iff.mp hj).1
  have item : ∀ m (hm : m < its.length), ∃ l t, ls[m]? = some l ∧ its[m] = Value.str (st l) t := fun m hm => hat m _ (List.getElem?_eq_getElem hm)
  let f : Value → Bool := fun y => match y with | .str z _ => decide (z = st n) | _ => false
  have stj : ∀ {a b : List Nat}, st a = st b → a = b := fun {a b} h => by
    have := congrArg (fun x : Str => x.cps.toList) h
    simpa using this
  refine call_meets F.slot_list_index ⟨_, e, rfl⟩ F.entry_list_index (F.args_list_index_2 _ _) (PySem.MeetsSeq.list_index l its.toArray k (.str (st n) t) f (fun y hy => ?_) j (by rw [List.size_toArray]; omega) (by omega) ?_ fun m hm hlt => ?_) ⟨e, ?_⟩
  · obtain ⟨m, hm, rfl⟩ := List.getElem_of_mem (by simpa using hy)
    obtain ⟨l', t', h1, h2⟩ := item m hm
    rw [h2]
    have := eqGives_str (st l') (st n) t' t
    have e2 : (st l' == st n) = f (.str (st l') t') := by simp only [f]; rw [Bool.eq_iff_iff]; simp
    rw [← e2]
    exact this
  · obtain ⟨l', t', h1, h2⟩ := item j (by omega)
    rw [hj] at h1; cases h1
    show f (its.toArray[j]'_) = true
    rw [List.getElem_toArray, h2]
    simp [f]
  · have hm' : m < its.length := by simpa using hm
    obtain ⟨l', t', h1, h2⟩ := item m hm'
    show f (its.toArray[m]'_) = false
    rw [List.getElem_toArray, h2]
    simp only [f, decide_eq_false_iff_not]
    intro z
    exact hno m hlt (by rw [h1, stj z])
  · exact ⟨.int j, H, I.tok _, ⟨_, rfl⟩, q⟩
variable {o e f : Expr} {to te tf : TE} {apos cpos : Pos}
def cIndex (to te : TE) : TE := fun σ H Q => to σ H fun x H1 => match x with
  | .ref l => (∃ xs, H1 l = some (.lst xs)) ∧ te σ H1 fun y H2 => match y with
    | .str z => ∃ (ls : List (List Nat)) (j : Nat), H2 l = some (.lst (ls.map fun l => V.str (st l))) ∧ ls.length ≤ 100000 ∧ ls[j]? = some z.cps.toList ∧ (∀ m, m < j → ls[m]? ≠ some z.cps.toList) ∧ Q (.int j) H2
    | _ => False
  | _ => False
theorem qe_index (ho : PE X o to) (he : PE X e te) (hbase : attributeBase o "index" X.env (eval o X.env) = eval o X.env := by rfl)
    (hfew : ((backTo cpos (starEach [e] X.env)).all (fun x => !x.1) && (backToKw cpos (keywordEach [] X.env)).all (fun x => x.1.isSome) && decide ([e].length + ([] : List Keyword).length + (if ([] : List Keyword).isEmpty then 0 else 1) < 30)) = true := by rfl)
    (hline : (apos.endLine == cpos.line) = true := by rfl) (hs : starEach [e] X.env = (false, eval e X.env) :: starEach [] X.env := by rfl) (hplain : (backTo cpos (starEach [] X.env)).any (·.1) = false := by rfl) :
    PE X (.Call (.Attribute o "index" apos) [e] [] cpos) (cIndex to te) :=
  (pe_bm PySem.F.plainAttrs_list PySem.F.slot_list_index PySem.F.type_list_index mt_index ho.mono (pa_cons he.mono pa_nil hs) hbase hfew hline hs hplain).imp fun σ H Q q => ⟨_, q, fun x H1 z => by
    split at z
    · rename_i l
      obtain ⟨⟨xs, h⟩, z⟩ := z
      refine ⟨.inl ⟨rfl, _, SqL.of h⟩, _, z, fun y H2 z2 => ?_⟩
      split at z2
      · rename_i y
        obtain ⟨ls, j, h1, h2, h3, h4, z2⟩ := z2
        exact ⟨l, ls, y.cps.toList, j, rfl, by rw [st_eta], h1, h2, h3, h4, z2⟩
      · exact z2.elim
    · exact z.elim⟩
/-- d.get(k, x) -/
def cDGet2 (td ty tx : TE) : TE := fun σ H Q => td σ H fun x H1 => match x with
  | .ref a => IsD H1 a ∧ ty σ H1 fun y H2 => tx σ H2 fun z H3 => ∃ o, DGet H3 a y o ∧ Q (o.getD z) H3
  | _ => False
theorem qe_dget2 (hu : X.A.units + 1 < cLine) (ho : PE X o to) (he : PE X e te) (hf : PE X f tf) (m : M2 X o "get" apos e f cpos) : PE X (.Call (.Attribute o "get" apos) [e, f] [] cpos) (cDGet2 to te tf) :=
  (pe_dget2 hu ho.mono he.mono hf.mono m).imp fun σ H Q q => ⟨_, q, fun x H1 z => by
    split at z
    · obtain ⟨d, z⟩ := z
      exact ⟨_, rfl, d, _, z, fun y H2 z2 => ⟨_, z2, fun w H3 z3 => z3⟩⟩
    · exact z.elim⟩
theorem a_cIndex {σ : St} {H : Hp} {Q : VK} : cIndex to te σ H Q = to σ H fun x H1 => match x with
  | .ref l => (∃ xs, H1 l = some (.lst xs)) ∧ te σ H1 fun y H2 => match y with
    | .str z => ∃ (ls : List (List Nat)) (j : Nat), H2 l = some (.lst (ls.map fun l => V.str (st l))) ∧ ls.length ≤ 100000 ∧ ls[j]? = some z.cps.toList ∧ (∀ m, m < j → ls[m]? ≠ some z.cps.toList) ∧ Q (.int j) H2
    | _ => False
  | _ => False := rfl
theorem a_cDGet2 {td ty tx : TE} {σ : St} {H : Hp} {Q : VK} : cDGet2 td ty tx σ H Q = td σ H fun x H1 => match x with
  | .ref a => IsD H1 a ∧ ty σ H1 fun y H2 => tx σ H2 fun z H3 => ∃ o, DGet H3 a y o ∧ Q (o.getD z) H3
  | _ => False := rfl
theorem a_cFmtA {tv : TE} {σ : St} {H : Hp} {Q : VK} : cFmtA tv σ H Q = tv σ H fun x H1 => match x with
  | .non => ∀ z : Str, z.length ≤ 200000 → Q (.str z) H1
  | .bl _ => ∀ z : Str, z.length ≤ 200000 → Q (.str z) H1
  | .int i => (i = 0 ∨ i = 10) ∧ ∀ z : Str, z.length ≤ 200000 → Q (.str z) H1
  | .str y => (∀ c ∈ y.cps.toList, c < 16 ^ 8) ∧ y.length ≤ 10000 ∧ ∀ z : Str, z.length ≤ 200000 → Q (.str z) H1
  | .ref p => ∃ ls, Few ls ∧ (H1 p = some (.lst (ls.map fun l => V.str (st l))) ∨ H1 p = some (.tup (ls.map fun l => V.str (st l)))) ∧ ∀ z : Str, z.length ≤ 200000 → Q (.str z) H1
  | _ => False := rfl
end
end L2


set_option linter.all false
set_option maxRecDepth 100000
namespace L2
open PySem PySem.Spec PyProof.Rows
section
variable {X : Cx} {e : Expr} {te : TE} {apos cpos : Pos}
theorem join_few (ls : List (List Nat)) (h : ls.length ≤ 1) : Txt.join ⟨#[]⟩ (ls.map st) = st ls.flatten := by
  match ls, h with
  | [], _ => rfl
  | [x], _ =>
    simp [Txt.join, Builtin.Str.glued, Str.join]
/-- ''.join(list of one text at most) -/
def cJoinW (K : PySem.W.Frag) (te : TE) : TE := fun σ H Q => te σ H fun x H1 => match x with
  | .ref l => ∃ ls : List (List Nat), SqL K H1 l (ls.map fun l => V.str (st l)) ∧ ls.length ≤ 1 ∧ (∀ x ∈ ls, x.length ≤ 10000) ∧ Q (.str (st ls.flatten)) H1
  | _ => False
theorem qe_joinW {j : Nat} {p1 : Pos} (K : PySem.W.Frag) (hK : X.K = K) (he : PE X e te) (hfew : ((backTo cpos (starEach [e] X.env)).all (fun x => !x.1) && (backToKw cpos (keywordEach [] X.env)).all (fun x => x.1.isSome) && decide ([e].length + ([] : List Keyword).length + (if ([] : List Keyword).isEmpty then 0 else 1) < 30)) = true := by rfl)
    (hline : (apos.endLine == cpos.line) = true := by rfl) (hs : starEach [e] X.env = (false, eval e X.env) :: starEach [] X.env := by rfl) (hplain : (backTo cpos (starEach [] X.env)).any (·.1) = false := by rfl)
    (hbase : attributeBase (.Constant (.str (Str.ofString "")) j p1) "join" X.env (eval (.Constant (.str (Str.ofString "")) j p1) X.env) = eval (.Constant (.str (Str.ofString "")) j p1) X.env := by rfl) :
    PE X (.Call (.Attribute (.Constant (.str (Str.ofString "")) j p1) "join" apos) [e] [] cpos) (cJoinW K te) := by
  subst hK
  refine (pe_bm PySem.F.plainAttrs_str PySem.F.slot_str_join PySem.F.type_str_join mt_join pe_str (pa_cons he.mono pa_nil hs) hbase hfew hline hs hplain).imp fun σ H Q q => ⟨rfl, _, q, fun x H1 z => ?_⟩
  split at z
  · rename_i l
    obtain ⟨ls, h, h1, h2, z⟩ := z
    refine ⟨_, l, ls.map st, rfl, rfl, by rw [List.map_map]; exact h, ?_, ?_⟩
    · have hz : (Str.ofString "").length = 0 := by rw [ofString_nil]; rfl
      rw [hz, Nat.mul_zero, Nat.add_zero]
      rcases ls with _ | ⟨x, _ | ⟨y, r⟩⟩
      · exact Nat.zero_le _
      · have h3 := h2 x List.mem_cons_self
        have e : (st x).length = x.length := st_len x
        rw [List.map_cons, List.map_nil, List.map_cons, List.map_nil, List.sum_cons, List.sum_nil, e]
        omega
      · simp at h1
    · rw [ofString_nil, join_few ls h1]
      exact z
  · exact z.elim
theorem a_cJoinW {K : PySem.W.Frag} {σ : St} {H : Hp} {Q : VK} : cJoinW K te σ H Q = te σ H fun x H1 => match x with
  | .ref l => ∃ ls : List (List Nat), SqL K H1 l (ls.map fun l => V.str (st l)) ∧ ls.length ≤ 1 ∧ (∀ x ∈ ls, x.length ≤ 10000) ∧ Q (.str (st ls.flatten)) H1
  | _ => False := rfl
end
end L2


set_option linter.all false
set_option maxRecDepth 100000
namespace L2
open PySem PySem.Spec PyProof.Rows
section
variable {X : Cx}
/-- z[:-1] of a text -/
def kSlM : V → Option Int → Option Int → Hp → VK → Prop := fun x lo hi H Q => match x, lo, hi with
  | .str z, none, some j => z.cps.toList.length ≤ 100000 ∧ 1 ≤ z.cps.toList.length ∧ j = -1 ∧ Q (.str (st (z.cps.toList.take (z.cps.toList.length - 1)))) H
  | _, _, _ => False
theorem slM : SlR X kSlM := sl_str.imp fun x lo hi H Q q => by
  unfold kSlM at q
  split at q
  · rename_i z j
    obtain ⟨h, h1, rfl, q⟩ := q
    have hl : z.length = z.cps.toList.length := strlen z
    refine ⟨z, rfl, by rw [strlen]; exact Nat.le_trans h big5, ?_⟩
    have e := slice_closes_to_neg (x := z) (j := -1) (k := (z.cps.toList.length : Int) - 1) (by decide) (by omega) (by omega)
    rw [eq_of_beq e]
    have e2 : ((z.cps.toList.length : Int) - 1 - 0).toNat = z.cps.toList.length - 1 := by omega
    rw [e2]
    exact q
  · exact q.elim
theorem a_kSlM {l : List Nat} {j : Int} {H : Hp} {Q : VK} : kSlM (.str (st l)) none (some j) H Q = (l.length ≤ 100000 ∧ 1 ≤ l.length ∧ j = -1 ∧ Q (.str (st (l.take (l.length - 1)))) H) := rfl
end
end L2



set_option linter.all false
set_option maxRecDepth 100000
namespace L2
open PySem PySem.Spec PyProof.Rows
/-! ### d.setdefault(k, v) -/
section
variable {X : Cx} {pins : List (Addr × Obj)} {σ : St} {H : Hp} {s : Shared} {a : Addr} {y v : V} {u r : Value} {A : Around} {E : Value → Shared → Prop}
end
def cSetDef (td ty tx : TE) : TE := fun σ H Q => td σ H fun x H1 => match x with
  | .ref a => IsD H1 a ∧ ty σ H1 fun y H2 => tx σ H2 fun z H3 => ∃ kvs k, H3 a = some (.dK kvs) ∧ y = kV k ∧ kvs.length < sizeLine ∧ (∀ v, valV kvs k = some v → Q v H3) ∧ (valV kvs k = none → Q z (upd H3 a (.dK (putK kvs k z))))
  | _ => False
section
variable {X : Cx} {o e f : Expr} {apos cpos : Pos} {td ty tx : TE}
theorem a_cSetDef {σ : St} {H : Hp} {Q : VK} : cSetDef td ty tx σ H Q = td σ H fun x H1 => match x with
  | .ref a => IsD H1 a ∧ ty σ H1 fun y H2 => tx σ H2 fun z H3 => ∃ kvs k, H3 a = some (.dK kvs) ∧ y = kV k ∧ kvs.length < sizeLine ∧ (∀ v, valV kvs k = some v → Q v H3) ∧ (valV kvs k = none → Q z (upd H3 a (.dK (putK kvs k z))))
  | _ => False := rfl
/-! ### return d: nobody writes to it from here on -/
def tRetD (te : TE) : TS := fun D σ H => te σ H fun x H1 => match x with
  | .ref a => ∃ kvs, H1 a = some (.dK kvs) ∧ ∀ ob, D.rt (.ref a) (upd H1 a (.frz ob (.dK kvs)))
  | _ => False
theorem Inv.frozen {pins : List (Addr × Obj)} {σ : St} {H : Hp} {s : Shared} {a : Addr} {kvs : List (Key × V)} (I : Inv X pins σ H s) (e : H a = some (.dK kvs)) : ∃ ob, Inv X pins σ (upd H a (.frz ob (.dK kvs))) s := by
  obtain ⟨z, hd, vs, rel, dd⟩ := dk_of I.hok e
  obtain ⟨ob, es, ep, hq, r⟩ := id dd
  refine ⟨ob, ?_⟩
  exact d_write (h' := s.heap) (t' := s.toks) I (by rw [e]; exact True.intro) ⟨rfl, fun _ _ => rfl⟩ ⟨ob, hq⟩ ⟨hq, dk_new z hd rel dd⟩
theorem a_tRetD {D : Ends} {σ : St} {H : Hp} : tRetD ty D σ H = ty σ H fun x H1 => match x with
  | .ref a => ∃ kvs, H1 a = some (.dK kvs) ∧ ∀ ob, D.rt (.ref a) (upd H1 a (.frz ob (.dK kvs)))
  | _ => False := rfl
end
end L2


set_option linter.all false
set_option maxRecDepth 100000
namespace L2
open PySem PySem.Spec PyProof.Rows
/-! ### for k, v in d.items() -/
def Itm (a : Addr) (o : Obj) (kvs : List (Key × V)) : It := ⟨fun i H => H a = some (.frz o (.dK kvs)) ∧ i < kvs.length, fun i H v H' => ∃ T k x, v = .ref T ∧ H T = none ∧ kvs[i]? = some (k, x) ∧ H' = upd H T (.tup [kV k, x]), fun i H => H a = some (.frz o (.dK kvs)) ∧ i = kvs.length⟩
section
variable {X : Cx} {o : Expr} {to : TE} {apos cpos : Pos}
def cItems (to : TE) : TI := fun σ H R => to σ H fun x H1 => match x with
  | .ref a => ∃ ob kvs, H1 a = some (.frz ob (.dK kvs)) ∧ R (Itm a ob kvs) H1
  | _ => False
theorem a_cItems {σ : St} {H : Hp} {R : It → Hp → Prop} : cItems to σ H R = to σ H fun x H1 => match x with
  | .ref a => ∃ ob kvs, H1 a = some (.frz ob (.dK kvs)) ∧ R (Itm a ob kvs) H1
  | _ => False := rfl
end
/-! ### d == e, values ints -/
def KVal (p : Key × V) : Prop := ∃ i, p.2 = V.int i
def dEq (ka kb : List (Key × V)) : Bool := ka.length == kb.length && ka.all fun p => match p.2, valV kb p.1 with | .int i, some (.int j) => i == j | _, _ => false
section
variable {X : Cx}
def kEqDict : R2 := fun x y H Q => match x, y with
  | .ref a, .ref b => ∃ ka kb, Rd H a (.dK ka) ∧ Rd H b (.dK kb) ∧ (∀ p ∈ ka, KVal p) ∧ (∀ p ∈ kb, KVal p) ∧ Q (.bl (dEq ka kb)) H
  | _, _ => False
/-! ### ints and tuples of these, whatever they are -/
end
end L2


set_option linter.all false
set_option maxRecDepth 100000
namespace L2
open PySem PySem.Spec PyProof.Rows
section
variable {K : PySem.W.Frag} {g : TG} {tc : TT} {te : TE} {σc : St} {D : Addr} {Q : VK} {H : Hp} {td ty : TE}
theorem a_tBreak {Dn : Ends} {σ : St} : tBreak Dn σ H = Dn.bk σ H := rfl
theorem a_kEqDict {a b : Addr} : kEqDict (.ref a) (.ref b) H Q = ∃ ka kb, Rd H a (.dK ka) ∧ Rd H b (.dK kb) ∧ (∀ p ∈ ka, KVal p) ∧ (∀ p ∈ kb, KVal p) ∧ Q (.bl (dEq ka kb)) H := rfl
end
end L2


set_option linter.all false
set_option maxRecDepth 100000
namespace L2
open PySem PySem.Spec PyProof.Rows
section
variable {K : PySem.W.Frag} {J : It} {g : TG} {tc : TT} {te : TE} {σc : St} {D : Addr} {Q : VK} {H : Hp}
end
end L2


set_option linter.all false
set_option maxRecDepth 100000
namespace L2
open PySem PySem.Spec PyProof.Rows
section
variable {X : Cx} {e : Expr} {te : TE} {pos : Pos}
/-- {v!r}, v a small int -/
def cFmtI (tv : TE) : TE := fun σ H Q => tv σ H fun x H1 => match x with
  | .int i => -100 ≤ i ∧ i ≤ 100 ∧ ∀ z : Str, z.length ≤ 200000 → Q (.str z) H1
  | _ => False
theorem a_cFmtI {tv : TE} {σ : St} {H : Hp} {Q : VK} : cFmtI tv σ H Q = tv σ H fun x H1 => match x with
  | .int i => -100 ≤ i ∧ i ≤ 100 ∧ ∀ z : Str, z.length ≤ 200000 → Q (.str z) H1
  | _ => False := rfl
end
end L2


set_option linter.all false
set_option maxRecDepth 100000
namespace L2
open PySem PySem.Spec PyProof.Rows
section
variable {X : Cx} {o e : Expr} {to te : TE} {apos cpos : Pos}
/-- xs.pop(i) -/
def cPopAt (to te : TE) : TE := fun σ H Q => to σ H fun x H1 => match x with
  | .ref l => (∃ xs, H1 l = some (.lst xs)) ∧ te σ H1 fun y H2 => match y with
    | .int i => ∃ (xs : List V) (k : Nat) (v : V), i = (k : Int) ∧ H2 l = some (.lst xs) ∧ xs.length ≤ 100000 ∧ xs[k]? = some v ∧ Q v (upd H2 l (.lst (xs.eraseIdx k)))
    | _ => False
  | _ => False
theorem a_cPopAt {σ : St} {H : Hp} {Q : VK} : cPopAt to te σ H Q = to σ H fun x H1 => match x with
  | .ref l => (∃ xs, H1 l = some (.lst xs)) ∧ te σ H1 fun y H2 => match y with
    | .int i => ∃ (xs : List V) (k : Nat) (v : V), i = (k : Int) ∧ H2 l = some (.lst xs) ∧ xs.length ≤ 100000 ∧ xs[k]? = some v ∧ Q v (upd H2 l (.lst (xs.eraseIdx k)))
    | _ => False
  | _ => False := rfl
end
end L2


set_option linter.all false
set_option maxRecDepth 100000
namespace L2
open PySem PySem.Spec PyProof.Rows PySem.W
/-- the class x of the program, as isinstance asks for it -/
def Xt (K : PySem.W.Frag) (mg : Str → Option Value) (x : Str) : Prop := mg x = some (.ref (xA K x)) ∧ typeIn K (.ref (xA K x)) = some (.type "type") ∧ mroIn K (xA K x) (.type "BaseException") = some true
theorem Xn.t {K : PySem.W.Frag} {mg : Str → Option Value} {x : Str} (n : Xn K mg x) : Xt K mg x := ⟨n.1, n.2.ty, n.2.mb⟩
theorem Xt.kit {K : PySem.W.Frag} {mg : Str → Option Value} {x y : Str} {b : Bool} (m : Xm K x y b) (n : Xt K mg y) : kitOne K (.ref (xA K x)) (.ref (xA K y)) = some b := by
  obtain ⟨_, ty, mb⟩ := n
  have known : (clsIn K (xA K y)).isSome = true := by
    cases e : clsIn K (xA K y) with
    | some _ => rfl
    | none => unfold mroIn at mb; rw [e] at mb; cases mb
  unfold kitOne
  split
  · rename_i q
    cases b with
    | true => rfl
    | false => exact absurd (Value.ref.inj (eq_of_beq q)) (m.2 rfl)
  · unfold kitCls
    dsimp only
    rw [if_pos (by rw [known, ty]; simp)]
    exact m.1
end L2

set_option Elab.async false
set_option linter.all false
set_option maxRecDepth 100000
set_option maxHeartbeats 4000000
namespace Law
open PySem L2 Mir
def top (i : Nat) : Stmt := PySem.Challenge.pw_throng_k16_rows_by_fields.main.body.getD i (.Pass ⟨0, 0, 0, 0⟩)
abbrev s_is_row : Stmt := top 13
theorem sc_is_row : FnScope ["thing", "width"] ["thing", "width"] (defScope s_is_row) := ⟨rfl, rfl, rfl, by decide +kernel, rfl, by decide +kernel, by decide +kernel⟩
abbrev s_is_text_of : Stmt := top 14
theorem sc_is_text_of : FnScope ["thing", "width", "signs", "sign"] ["thing", "width", "signs"] (defScope s_is_text_of) := ⟨rfl, rfl, rfl, by decide +kernel, rfl, by decide +kernel, by decide +kernel⟩
abbrev s_layout_width : Stmt := top 16
theorem sc_layout_width : FnScope ["layout"] ["layout"] (defScope s_layout_width) := ⟨rfl, rfl, rfl, by decide +kernel, rfl, by decide +kernel, by decide +kernel⟩
abbrev s_field_span : Stmt := top 17
theorem sc_field_span : FnScope ["layout", "name", "first", "field", "size"] ["layout", "name"] (defScope s_field_span) := ⟨rfl, rfl, rfl, by decide +kernel, rfl, by decide +kernel, by decide +kernel⟩
abbrev s_field_row : Stmt := top 18
theorem sc_field_row : FnScope ["layout", "parts", "row", "told", "name", "signs", "span"] ["layout", "parts"] (defScope s_field_row) := ⟨rfl, rfl, rfl, by decide +kernel, rfl, by decide +kernel, by decide +kernel⟩
abbrev s__law_cell_at : Stmt := top 20
theorem sc__law_cell_at : FnScope ["_law_script", "_law_k"] ["_law_script", "_law_k"] (defScope s__law_cell_at) := ⟨rfl, rfl, rfl, by decide +kernel, rfl, by decide +kernel, by decide +kernel⟩
abbrev s__law_stream : Stmt := top 21
theorem sc__law_stream : FnScope ["_law_cell", "_law_many", "_law_found", "_law_number", "_law_k"] ["_law_cell", "_law_many"] (defScope s__law_stream) := ⟨rfl, rfl, rfl, by decide +kernel, rfl, by decide +kernel, by decide +kernel⟩
abbrev s__law_row : Stmt := top 22
theorem sc__law_row : FnScope ["_law_cell", "_law_width", "_law_loose", "_law_signs_here", "_law_number"] ["_law_cell", "_law_width", "_law_loose"] (defScope s__law_row) := ⟨rfl, rfl, rfl, by decide +kernel, rfl, by decide +kernel, by decide +kernel⟩
abbrev s__law_names : Stmt := top 23
theorem sc__law_names : FnScope ["_law_cell", "_law_many", "_law_abc", "_law_base", "_law_at"] ["_law_cell", "_law_many"] (defScope s__law_names) := ⟨rfl, rfl, rfl, by decide +kernel, rfl, by decide +kernel, by decide +kernel⟩
abbrev s__law_is_row : Stmt := top 24
theorem sc__law_is_row : FnScope ["_law_found", "_law_width"] ["_law_found", "_law_width"] (defScope s__law_is_row) := ⟨rfl, rfl, rfl, by decide +kernel, rfl, by decide +kernel, by decide +kernel⟩
abbrev s__law_word : Stmt := top 25
theorem sc__law_word : FnScope ["_law_e", "_law_words"] ["_law_e"] (defScope s__law_word) := ⟨rfl, rfl, rfl, by decide +kernel, rfl, by decide +kernel, by decide +kernel⟩
abbrev s__law_signs : Stmt := top 26
theorem sc__law_signs : FnScope ["_law_cell", "_law_size", "_law_signs_here", "_law_way", "_law_at"] ["_law_cell", "_law_size"] (defScope s__law_signs) := ⟨rfl, rfl, rfl, by decide +kernel, rfl, by decide +kernel, by decide +kernel⟩
abbrev s__law_due : Stmt := top 27
theorem sc__law_due : FnScope ["_law_layout", "_law_parts_here", "_law_known", "_law_seen", "_law_name", "_law_signs_here", "_law_row_here", "_law_size"] ["_law_layout", "_law_parts_here"] (defScope s__law_due) := ⟨rfl, rfl, rfl, by decide +kernel, rfl, by decide +kernel, by decide +kernel⟩
abbrev s__law_parts : Stmt := top 28
theorem sc__law_parts : FnScope ["_law_cells", "_law_names_here", "_law_sizes", "_law_found", "_law_cell", "_law_k", "_law_name"] ["_law_cells", "_law_names_here", "_law_sizes"] (defScope s__law_parts) := ⟨rfl, rfl, rfl, by decide +kernel, rfl, by decide +kernel, by decide +kernel⟩
abbrev s_law : Stmt := top 29
theorem sc_law : FnScope ["_law_script", "_law_many", "_law_names_here", "_law_sizes", "_law_layout", "_law_parts_here", "_law_handed", "_law_word_here", "_law_found", "_law_e"] ["_law_script"] (defScope s_law) := ⟨rfl, rfl, rfl, by decide +kernel, rfl, by decide +kernel, by decide +kernel⟩
structure Top (K : PySem.W.Frag) (mg : Str → Option Value) : Prop where
  f_is_row : Fn K mg "is_row" s_is_row
  f_is_text_of : Fn K mg "is_text_of" s_is_text_of
  f_layout_width : Fn K mg "layout_width" s_layout_width
  f_field_span : Fn K mg "field_span" s_field_span
  f_field_row : Fn K mg "field_row" s_field_row
  f__law_cell_at : Fn K mg "_law_cell_at" s__law_cell_at
  f__law_stream : Fn K mg "_law_stream" s__law_stream
  f__law_row : Fn K mg "_law_row" s__law_row
  f__law_names : Fn K mg "_law_names" s__law_names
  f__law_is_row : Fn K mg "_law_is_row" s__law_is_row
  f__law_word : Fn K mg "_law_word" s__law_word
  f__law_signs : Fn K mg "_law_signs" s__law_signs
  f__law_due : Fn K mg "_law_due" s__law_due
  f__law_parts : Fn K mg "_law_parts" s__law_parts
  f_law : Fn K mg "law" s_law
  b_isinstance : mg "isinstance" = none
  b_str : mg "str" = none
  b_len : mg "len" = none
  b_sum : mg "sum" = none
  b_range : mg "range" = none
  b_ValueError : mg "ValueError" = none
  b_list : mg "list" = none
  b_tuple : mg "tuple" = none
  b_reversed : mg "reversed" = none
  x_NoField : Xn K mg "NoField"
  x_Twice : Xn K mg "Twice"
  x_Misfit : Xn K mg "Misfit"
  x_NoRule : Xn K mg "NoRule"
  x_NoWay : Xn K mg "NoWay"
  x_ThrongError : Xn K mg "ThrongError"
  x_NoDoor : Xn K mg "NoDoor"
  x_NoHouse : Xn K mg "NoHouse"
  x_NoLine : Xn K mg "NoLine"
  x_BadWord : Xn K mg "BadWord"
  x_Unlike : Xn K mg "Unlike"
  v_NoField : Xv K "NoField"
  m_NoField_Misfit : Xm K "NoField" "Misfit" false
  m_NoField_Twice : Xm K "NoField" "Twice" false
  m_NoField_NoField : Xm K "NoField" "NoField" true
  m_NoField_NoRule : Xm K "NoField" "NoRule" false
  m_NoField_NoWay : Xm K "NoField" "NoWay" false
  m_NoField_ThrongError : Xm K "NoField" "ThrongError" true
  m_NoField_NoDoor : Xm K "NoField" "NoDoor" false
  m_NoField_NoHouse : Xm K "NoField" "NoHouse" false
  m_NoField_NoLine : Xm K "NoField" "NoLine" false
  m_NoField_BadWord : Xm K "NoField" "BadWord" false
  m_NoField_Unlike : Xm K "NoField" "Unlike" false
  v_Twice : Xv K "Twice"
  m_Twice_Misfit : Xm K "Twice" "Misfit" false
  m_Twice_Twice : Xm K "Twice" "Twice" true
  m_Twice_NoField : Xm K "Twice" "NoField" false
  m_Twice_NoRule : Xm K "Twice" "NoRule" false
  m_Twice_NoWay : Xm K "Twice" "NoWay" false
  m_Twice_ThrongError : Xm K "Twice" "ThrongError" true
  m_Twice_NoDoor : Xm K "Twice" "NoDoor" false
  m_Twice_NoHouse : Xm K "Twice" "NoHouse" false
  m_Twice_NoLine : Xm K "Twice" "NoLine" false
  m_Twice_BadWord : Xm K "Twice" "BadWord" false
  m_Twice_Unlike : Xm K "Twice" "Unlike" false
  v_Misfit : Xv K "Misfit"
  m_Misfit_Misfit : Xm K "Misfit" "Misfit" true
  m_Misfit_Twice : Xm K "Misfit" "Twice" false
  m_Misfit_NoField : Xm K "Misfit" "NoField" false
  m_Misfit_NoRule : Xm K "Misfit" "NoRule" false
  m_Misfit_NoWay : Xm K "Misfit" "NoWay" false
  m_Misfit_ThrongError : Xm K "Misfit" "ThrongError" true
  m_Misfit_NoDoor : Xm K "Misfit" "NoDoor" false
  m_Misfit_NoHouse : Xm K "Misfit" "NoHouse" false
  m_Misfit_NoLine : Xm K "Misfit" "NoLine" false
  m_Misfit_BadWord : Xm K "Misfit" "BadWord" false
  m_Misfit_Unlike : Xm K "Misfit" "Unlike" false
local macro_rules | `(tactic| walk_at "rd") => `(tactic| try simp only [a_cVar, a_tC, a_tOp, a_kAddI, a_kAddS, a_kAddL, a_kI, a_kI0, a_kMulI, a_kMulS, a_kEqI, a_kEqS, a_kEqB, a_kEqNS, a_kEqSN, a_kEqNN, a_kIs, a_kIsB, a_kInS, a_kInL, a_kIxS, a_kIxL, a_kLenS, a_kLenL, a_kIntI, a_kIntB, a_kIntS, a_kSlTo, a_kSlFrom, a_kSlL, a_tSl, a_tNoPart, a_cPart, a_cNeg, a_kEqNil, a_cIsI, Ty.isBl, Ty.isInt, Ty.isStr, Ty.isLst, Ty.isTup, a_cTest, a_blK, a_cAndV, a_cOrV, a_cNotV, a_tAnd, a_tOr, a_tNot, a_tYes, a_tIf, a_cApp, a_cJoin1, a_tNil, a_tCons, a_tCall, a_tCB, a_tLst, a_tTup, a_tNext, a_tSeq, a_tDrop, a_tRet, a_tRetN, a_tIfS, a_tAsg, a_gName, a_tJoin, a_cFor, a_cIter, a_cRng1, a_cRng2, a_cZip, a_srcKS, a_srcKL, a_cComp, compσ, L2.start, a_cxK, a_cxCK, CDiv, CPow,
  List.map_cons, List.map_nil, List.length_cons, List.length_nil, List.replicate_succ, List.replicate_zero, List.cons_append, List.nil_append, List.getElem?_cons_zero, List.getElem?_cons_succ, List.set_cons_zero, List.set_cons_succ, Option.getD_some, Option.getD_none, Nat.reduceAdd, Nat.reduceSub, Bool.false_bne, Bool.true_bne, Bool.false_xor, Bool.true_xor, Bool.not_eq_true', decide_eq_true_eq, decide_eq_false_iff_not, Bool.not_true, Bool.not_false, if_true, if_false, true_and, and_true, Int.reduceLT, Int.reduceLE, Nat.reduceLeDiff,  Bool.false_eq_true, a_gCons, a_gNil, a_gSeq, a_cRepl, a_cCount, a_kListS, a_kListL, a_kTupleS, a_cEnum, a_kSum, a_cSortSet, a_cStarts, a_cRng3, a_cEnumL, a_cListRev, a_kSlF, a_cListRng, a_kAny, a_kSorted, a_kNeNil, a_kEqD, a_kMulL, a_gSub, a_rSetL, a_tPar, a_tCallT, a_tRaise, a_cFS, a_jNil, a_jCons, a_cFmtR, a_cIsX, a_cIsXT, a_tTryAs, a_kSlB, a_cDGet, a_cDIn, a_cDPut, a_dNewK, a_cIndex, a_cDGet2, a_cFmtA, a_cJoinW, a_kSlM, a_cSetDef, a_tRetD, a_cItems, a_tBreak, a_kEqDict, a_cFmtI, a_cPopAt, a_one, ite_not, st_cps, Bool.true_eq_false, Int.zero_add, reduceIte, ite_true, ite_false])
section
variable {P : Program} {w : World} {K : PySem.W.Frag} {mg : Str → Option Value} {base : Heap}
def sp__law_cell_at (K : PySem.W.Frag) : Sp := fun vs H Q _ => match vs with
  | [.ref a, .int k] => ∃ ns : List Int, SqL K H a (ns.map V.int) ∧ 0 ≤ k ∧ Q (.int (cell ns k.toNat)) H
  | _ => False
theorem cell_here {H : Hp} {a : Addr} {ns : List Int} {k : Int} {Q : VK} {E : XK} (hS : SqL K H a (ns.map V.int)) (hk : 0 ≤ k) (q : Q (.int (cell ns k.toNat)) H) : sp__law_cell_at K [.ref a, .int k] H Q E := ⟨ns, hS, hk, q⟩
theorem ok__law_cell_at (T : Top K mg) : Callee P w K mg base 1 "_law_cell_at" ["_law_script", "_law_k"] (sp__law_cell_at K) := by
  refine T.f__law_cell_at.cal sc__law_cell_at (by intro vs H Q E h; unfold sp__law_cell_at at h; split at h <;> first | rfl | exact h.elim) (fun _ _ _ _ _ _ us hl => match us, hl with | [_, _], _ => rfl) (fun f cdv A outer s H vs Q E hr h => ?_)
  unfold sp__law_cell_at at h
  split at h
  case h_2 => exact h.elim
  refine ⟨_, (pss_cons (ps_if (qt_cmp op_ltK (qv 1) (pe_callB (lenE K rfl) rfl T.b_len bb_len (pa_cons (qv 0) pa_nil))) (pss_one (ps_ret (pe_ix (ixE K rfl) (qv 0) (qv 1) (fun _ _ => rfl)))) pss_nil)
      (pss_one (ps_ret pe_int))), ?_⟩
  rename_i a k
  obtain ⟨ns, hS, hk, q⟩ := h
  walk_at "rd"
  refine ⟨_, .inl hS, ?_⟩
  walk_at "rd"
  rw [List.length_map]
  refine ite2 (fun hlt => ?_) (fun hge => ?_)
  · exact ⟨_, _, .inl hS, cell_lt hk hlt, q⟩
  · rw [← cell_ge hge]
    exact q
def sp__law_stream (K : PySem.W.Frag) : Sp := fun vs H Q _ => match vs with
  | [.int c, .int n] => 0 ≤ n ∧ n ≤ 1000 ∧ ∀ p H', H p = none → Same H H' → H' p = some (.lst ((stream c n.toNat).map V.int)) → Q (.ref p) H'
  | _ => False
theorem ok__law_stream (T : Top K mg) : Callee P w K mg base 1 "_law_stream" ["_law_cell", "_law_many"] (sp__law_stream K) := by
  refine T.f__law_stream.cal sc__law_stream (by intro vs H Q E h; unfold sp__law_stream at h; split at h <;> first | rfl | exact h.elim) (fun _ _ _ _ _ _ us hl => match us, hl with | [_, _], _ => rfl) (fun f cdv A outer s H vs Q E hr h => ?_)
  unfold sp__law_stream at h
  split at h
  case h_2 => exact h.elim
  refine ⟨_, (pss_cons (ps_set (i := 2) sc__law_stream.nd rfl (by first | exact Or.inl rfl | exact Or.inr rfl) (pe_lst pa_nil))
      (pss_cons (ps_set (i := 3) sc__law_stream.nd rfl (by first | exact Or.inl rfl | exact Or.inr rfl) (pe_op op_addK (pe_op op_modK (qv 0) pe_int) pe_int))
      (pss_cons (qs_for PassesOwn.never rfl (qi_range1 rfl T.b_range (qv 1)) (pg_name (i := 4) sc__law_stream.nd rfl (by first | exact Or.inl rfl | exact Or.inr rfl)) (pss_cons (ps_set (i := 3) sc__law_stream.nd rfl (by first | exact Or.inl rfl | exact Or.inr rfl) (pe_op op_modK (pe_op op_addK (pe_op op_addK (pe_op op_mulK (qv 3) pe_int) (pe_op op_mulK (pe_op op_mulK pe_int (qv 4)) (qv 4))) pe_int) pe_int))
      (pss_one (ps_expr (qe_append (qv 2) (pe_op op_fdivK (qv 3) pe_int))))))
      (pss_one (ps_ret (qv 2)))))), ?_⟩
  rename_i c n
  obtain ⟨h0, h1, q⟩ := h
  walk_at "rd"
  refine ⟨by decide, fun p hp => ⟨by omega, by omega, ?_⟩⟩
  refine loop_range (fun i σ H' => ∃ k, σ = [some (.int c), some (.int n), some (.ref p), some (.int (num c i)), k] ∧ Same H H' ∧ H' p = some (.lst ((stream c i).map V.int))) ⟨none, rfl, same_new hp _, upd_same⟩ ?_ ?_
  · rintro i σ H1 hi ⟨k, rfl, s1, e1⟩
    walk_at "rd"
    have hb1 := num_lo c i
    have hb2 := num_hi c i
    refine ⟨.inl ⟨by omega, by omega⟩, .inl ⟨by omega, by omega⟩, .inr ⟨by omega, by omega⟩, ?_⟩
    refine ⟨⟨_, e1⟩, _, e1, sizeBig (by simp [stream_len]; omega), ?_⟩
    refine ⟨_, rfl, same_upd s1 hp, ?_⟩
    rw [upd_same, stream_snoc]
    simp [num]
  · rintro σ H1 ⟨k, rfl, s1, e1⟩
    walk_at "rd"
    exact q p H1 hp s1 e1
/-- what the thing is asked to be: a text of so many signs, all of some -/
def textOf (v : V) (w : Int) (l : List Nat) : Bool := match v with
  | .str a => decide ((a.cps.toList.length : Int) = w) && a.cps.toList.all fun c => decide (c ∈ l)
  | _ => false
def Known (H : Hp) (v : V) : Prop := match v with
  | .non => True
  | .bl _ => True
  | .int _ => True
  | .str a => a.cps.toList.length ≤ 1000
  | .ref p => (∃ xs, H p = some (.lst xs)) ∨ (∃ xs, H p = some (.tup xs))
  | _ => False
theorem Known.same {H H' : Hp} {v : V} (k : Known H v) (s : Same H H') : Known H' v := by
  cases v <;> try exact k
  rcases k with ⟨xs, h⟩ | ⟨xs, h⟩
  · exact .inl ⟨xs, s _ _ h⟩
  · exact .inr ⟨xs, s _ _ h⟩
def sp_is_text_of : Sp := fun vs H Q _ => match vs with
  | [v, .int w, .str l] => Known H v ∧ Q (.bl (textOf v w l.cps.toList)) H
  | _ => False
theorem ok_is_text_of (T : Top K mg) : Callee P w K mg base 1 "is_text_of" ["thing", "width", "signs"] sp_is_text_of := by
  refine T.f_is_text_of.cal sc_is_text_of (by intro vs H Q E h; unfold sp_is_text_of at h; split at h <;> first | rfl | exact h.elim) (fun _ _ _ _ _ _ us hl => match us, hl with | [_, _, _], _ => rfl) (fun f cdv A outer s H vs Q E hr h => ?_)
  unfold sp_is_text_of at h
  split at h
  case h_2 => exact h.elim
  refine ⟨_, (pss_cons (ps_if (PW.pt (pw_or (pt_not (qt_val (qe_isinst .str rfl T.b_isinstance (qv 0) rfl T.b_str bb_str))) (pw_or1 (qt_cmp op_neK (pe_callB (lenE K rfl) rfl T.b_len bb_len (pa_cons (qv 0) pa_nil)) (qv 1))))) (pss_one (ps_ret pe_bl)) pss_nil)
      (pss_cons (qs_for PassesOwn.never rfl (iterE K rfl (qv 0)) (pg_name (i := 3) sc_is_text_of.nd rfl (by first | exact Or.inl rfl | exact Or.inr rfl)) (pss_one (ps_if (qt_cmp (notinE K rfl) (qv 3) (qv 2)) (pss_one (ps_ret pe_bl)) pss_nil)))
      (pss_one (ps_ret pe_bl)))), ?_⟩
  rename_i v n z
  obtain ⟨l, rfl⟩ : ∃ x, z = st x := ⟨_, (st_eta z).symm⟩
  obtain ⟨hk, q⟩ := h
  simp only [st_cps] at q
  walk_at "rd"
  cases v with
  | str a =>
    obtain ⟨x, rfl⟩ : ∃ x, a = st x := ⟨_, (st_eta a).symm⟩
    walk_at "rd"
    have hk' : x.length ≤ 1000 := hk
    refine ⟨by omega, ite2 (fun g1 => ?_) fun g1 => ?_⟩
    · refine loop_str (fun i σ H' => ∃ k, σ = [some (.str (st x)), some (.int n), some (.str (st l)), k] ∧ H' = H ∧ (x.take i).all (fun c => decide (c ∈ l)) = true) ⟨none, rfl, rfl, rfl⟩ ?_ ?_
      · rintro i c σ H1 hc ⟨k, rfl, rfl, e1⟩
        walk_at "rd"
        refine ite2 (fun g2 => ⟨_, rfl, ?_⟩) fun g2 => ?_
        · rw [List.take_succ, hc, List.all_append, e1]
          simp [g2]
        · have e : textOf (.str (st x)) n l = false := by
            simp only [textOf, st_cps, Bool.and_eq_false_iff]
            refine .inr ?_
            rw [Bool.eq_false_iff]
            intro z
            rw [List.all_eq_true] at z
            exact g2 (of_decide_eq_true (z c (List.mem_of_getElem? hc)))
          rw [e] at q
          exact q
      · rintro σ H1 ⟨k, rfl, rfl, e1⟩
        walk_at "rd"
        rw [List.take_length] at e1
        have e : textOf (.str (st x)) n l = true := by
          simp only [textOf, st_cps, Bool.and_eq_true]
          exact ⟨decide_eq_true g1, e1⟩
        rw [e] at q
        exact q
    · have e : textOf (.str (st x)) n l = false := by
        simp only [textOf, st_cps, Bool.and_eq_false_iff]
        exact .inl (decide_eq_false g1)
      rw [e] at q
      exact q
  | ref p =>
    rcases hk with hk | hk
    · exact .inl ⟨hk, q⟩
    · exact .inr ⟨hk, q⟩
  | non => exact q
  | bl b => exact q
  | int i => exact q
  | _ => exact hk.elim
def sp_is_row : Sp := fun vs H Q _ => match vs with
  | [v, .int w] => Known H v ∧ Q (.bl (textOf v w [48, 49, 45])) H
  | _ => False
theorem ok_is_row (T : Top K mg) : Callee P w K mg base 2 "is_row" ["thing", "width"] sp_is_row := by
  refine T.f_is_row.cal sc_is_row (by intro vs H Q E h; unfold sp_is_row at h; split at h <;> first | rfl | exact h.elim) (fun _ _ _ _ _ _ us hl => match us, hl with | [_, _], _ => rfl) (fun f cdv A outer s H vs Q E hr h => ?_)
  unfold sp_is_row at h
  split at h
  case h_2 => exact h.elim
  refine ⟨_, (pss_one (ps_ret (pe_fn (ok_is_text_of T) (hr.mono (by first | decide | omega)) rfl (pa_cons (qv 0) (pa_cons (qv 1) (pa_cons (qs [48, 49, 45]) pa_nil)))))), ?_⟩
  walk_at "rd"
  exact h
def sp__law_row : Sp := fun vs H Q _ => match vs with
  | [.int c, .int w, .int l] => 0 ≤ w ∧ w ≤ 1000 ∧ 0 < l ∧ ∀ H', Same H H' → Q (.str (st (row c w.toNat l))) H'
  | _ => False
theorem ok__law_row (T : Top K mg) : Callee P w K mg base 2 "_law_row" ["_law_cell", "_law_width", "_law_loose"] sp__law_row := by
  refine T.f__law_row.cal sc__law_row (by intro vs H Q E h; unfold sp__law_row at h; split at h <;> first | rfl | exact h.elim) (fun _ _ _ _ _ _ us hl => match us, hl with | [_, _, _], _ => rfl) (fun f cdv A outer s H vs Q E hr h => ?_)
  unfold sp__law_row at h
  split at h
  case h_2 => exact h.elim
  refine ⟨_, (pss_cons (ps_set (i := 3) sc__law_row.nd rfl (by first | exact Or.inl rfl | exact Or.inr rfl) (pe_lst pa_nil))
      (pss_cons (qs_for PassesOwn.never rfl (iterE K rfl (pe_fn (ok__law_stream T) (hr.mono (by first | decide | omega)) rfl (pa_cons (qv 0) (pa_cons (qv 1) pa_nil)))) (pg_name (i := 4) sc__law_row.nd rfl (by first | exact Or.inl rfl | exact Or.inr rfl)) (pss_one (ps_if (qt_cmp op_gtK (pe_op op_modK (qv 4) (qv 2)) pe_int) (pss_one (ps_expr (qe_append (qv 3) (qs [45])))) (pss_one (ps_expr (qe_append (qv 3) (pe_ix (ixE K rfl) (qs [48, 49]) (pe_op op_modK (pe_op op_fdivK (qv 4) pe_int) pe_int) (fun _ _ => rfl))))))))
      (pss_one (ps_ret (joinE K rfl (qv 3)))))), ?_⟩
  rename_i c n l
  obtain ⟨h0, h1, h2, q⟩ := h
  walk_at "rd"
  refine ⟨by decide, fun g hg => ⟨by omega, by omega, fun p H1 hp s1 e1 => .inl ⟨⟨_, SqL.of e1⟩, ?_⟩⟩⟩
  have npg : g ≠ p := ne_of_none upd_same hp
  have hp0 : H p = none := by rw [upd_ne npg.symm] at hp; exact hp
  have s0 : Same H H1 := (same_new hg _).trans s1
  refine loop_items V.int (stream c n.toNat) (fun i σ H' => ∃ k, σ = [some (.int c), some (.int n), some (.int l), some (.ref g), k] ∧ Same H H' ∧ H' p = some (.lst ((stream c n.toNat).map V.int)) ∧ H' g = some (.lst ((((stream c n.toNat).take i).map (rowSign l)).map fun k => V.str (st [k]))))
    ⟨none, rfl, s0, e1, s1 _ _ upd_same⟩ (fun i σ H' _ ⟨_, _, _, z, _⟩ => SqL.of z) ?_ ?_
  · rintro i e σ H2 he ⟨k, rfl, s2, e2, e3⟩
    have hi : i < (stream c n.toNat).length := (List.getElem?_eq_some_iff.mp he).1
    rw [stream_len] at hi
    have hm := List.mem_of_getElem? he
    have h3 := stream_nn hm
    have small : ((((stream c n.toNat).take i).map (rowSign l)).map fun k => V.str (st [k])).length < sizeLine := sizeBig (by simp [stream_len]; omega)
    have fin : ∀ k, k = rowSign l e → ∃ k', [some (V.int c), some (V.int n), some (V.int l), some (V.ref g), some (V.int e)] = [some (.int c), some (.int n), some (.int l), some (.ref g), k'] ∧ Same H (upd H2 g (.lst (((((stream c n.toNat).take i).map (rowSign l)).map fun k => V.str (st [k])) ++ [V.str (st [k])]))) ∧
        (upd H2 g (.lst (((((stream c n.toNat).take i).map (rowSign l)).map fun k => V.str (st [k])) ++ [V.str (st [k])]))) p = some (.lst ((stream c n.toNat).map V.int)) ∧
        (upd H2 g (.lst (((((stream c n.toNat).take i).map (rowSign l)).map fun k => V.str (st [k])) ++ [V.str (st [k])]))) g = some (.lst ((((stream c n.toNat).take (i + 1)).map (rowSign l)).map fun k => V.str (st [k]))) := fun k hk => by
      refine ⟨_, rfl, same_upd s2 hg, by rw [upd_ne npg.symm]; exact e2, ?_⟩
      rw [upd_same, List.take_succ, he, hk]
      simp
    walk_at "rd"
    refine ⟨h2, ite2 (fun h4 => ?_) fun h4 => ?_⟩
    · exact ⟨⟨_, e3⟩, _, e3, small, fin 45 (by unfold rowSign; rw [if_pos h4])⟩
    · exact ⟨⟨_, e3⟩, _, at01 _, _, e3, small, fin _ (by unfold rowSign; rw [if_neg h4])⟩
  · rintro σ H2 ⟨k, rfl, s2, e2, e3⟩
    walk_at "rd"
    rw [List.take_length] at e3
    exact ⟨_, SqL.of e3, by simp [stream_len]; omega, q H2 s2⟩
abbrev sgn (c : Nat) : V := V.str (st [c])
theorem flat_one' {α β : Type} (f : α → β) (l : List α) : (l.flatMap fun x => [f x]) = l.map f := by
  induction l with
  | nil => rfl
  | cons x l ih => rw [List.flatMap_cons, ih]; rfl
def abcL : List Nat := [97, 98, 99, 100, 101, 102, 103, 104, 105, 106, 107, 108, 109, 110, 111, 112, 113, 114, 115, 116, 117, 118, 119, 120, 121, 122]
def abcAt (k : Int) : Nat := (abcL[(k % 26).toNat]?).getD 0
theorem abc_at (k : Int) : atI [97, 98, 99, 100, 101, 102, 103, 104, 105, 106, 107, 108, 109, 110, 111, 112, 113, 114, 115, 116, 117, 118, 119, 120, 121, 122] (k % 26) = some (abcAt k) := by
  obtain ⟨j, hj⟩ : ∃ j : Nat, k % 26 = j := ⟨(k % 26).toNat, by omega⟩
  have h26 : j < 26 := by omega
  have hl : j < abcL.length := h26
  unfold abcAt
  rw [hj, Int.toNat_natCast, List.getElem?_eq_getElem hl]
  exact atI_nat (xs := abcL) (List.getElem?_eq_getElem hl)
def nameBase (c : Int) : List Nat := (stream (c / 3) 8).map abcAt
theorem nameBase_len (c : Int) : (nameBase c).length = 8 := by simp [nameBase, stream_len]
def nameShort (c : Int) : List Nat := (nameBase c).take (1 + c / 3 % 8).toNat
theorem nameShort_len (c : Int) : ((nameShort c).length : Int) = 1 + c / 3 % 8 := by
  unfold nameShort
  rw [List.length_take, nameBase_len]
  omega
def nameA (c : Int) (k : Nat) : List Nat := (nameBase c).take (k + 1)
def nameB (c : Int) (k : Nat) : List Nat := (nameShort c).take (c / 24 % (nameShort c).length).toNat ++ [abcAt (c / 3 + 7 * k)] ++ (nameShort c).drop ((c / 24 % (nameShort c).length).toNat + 1)
def nameL (c : Int) (m : Nat) : List (List Nat) := (List.range m).map fun k => if c % 3 = 1 ∧ m ≤ 8 then nameA c k else nameB c k
def sp__law_names : Sp := fun vs H Q _ => match vs with
  | [.int c, .int m] => 0 ≤ m ∧ m ≤ 100 ∧ ∀ p H', H p = none → Same H H' → H' p = some (.lst ((nameL c m.toNat).map tx)) → Q (.ref p) H'
  | _ => False
theorem ok__law_names (T : Top K mg) : Callee P w K mg base 2 "_law_names" ["_law_cell", "_law_many"] sp__law_names := by
  refine T.f__law_names.cal sc__law_names (by intro vs H Q E h; unfold sp__law_names at h; split at h <;> first | rfl | exact h.elim) (fun _ _ _ _ _ _ us hl => match us, hl with | [_, _], _ => rfl) (fun f cdv A outer s H vs Q E hr h => ?_)
  unfold sp__law_names at h
  split at h
  case h_2 => exact h.elim
  refine ⟨_, (pss_cons (ps_set (i := 2) sc__law_names.nd rfl (by first | exact Or.inl rfl | exact Or.inr rfl) (qs [97, 98, 99, 100, 101, 102, 103, 104, 105, 106, 107, 108, 109, 110, 111, 112, 113, 114, 115, 116, 117, 118, 119, 120, 121, 122]))
      (pss_cons (ps_set (i := 3) sc__law_names.nd rfl (by first | exact Or.inl rfl | exact Or.inr rfl) (joinE K rfl (qe_comp (nt := 1) (fi := [2]) (N' := ["_law_number", "_law_abc"]) rfl (cscope rfl (by decide +kernel)) (cnames (N := ["_law_cell", "_law_many", "_law_abc", "_law_base", "_law_at"]) (sc := defScope s__law_names) rfl rfl (by decide +kernel)) (gk_name (by decide)) (iterE K rfl (pe_fn (ok__law_stream T) (hr.mono (by first | decide | omega)) rfl (pa_cons (pe_op op_fdivK (qv 0) pe_int) (pa_cons pe_int pa_nil)))) (fun _ _ _ _ _ => (pg_name (i := 0) (by show (["_law_number", "_law_abc"] : List Str).Nodup; decide +kernel) rfl (by first | exact Or.inl rfl | exact Or.inr rfl))) (fun _ _ _ _ _ => pif_nil) (fun _ _ _ _ _ => (pe_ix (ixE K rfl) (qv 1) (pe_op op_modK (qv 0) pe_int) (fun _ _ => rfl))))))
      (pss_cons (ps_if (PW.pt (pw_and (qt_cmp op_eqK (pe_op op_modK (qv 0) pe_int) pe_int) (pw_and1 (qt_cmp op_leK (qv 1) pe_int)))) (pss_one (ps_ret (qe_comp (nt := 1) (fi := [3]) (N' := ["_law_k", "_law_base"]) rfl (cscope rfl (by decide +kernel)) (cnames (N := ["_law_cell", "_law_many", "_law_abc", "_law_base", "_law_at"]) (sc := defScope s__law_names) rfl rfl (by decide +kernel)) (gk_name (by decide)) (qi_range1 rfl T.b_range (qv 1)) (fun _ _ _ _ _ => (pg_name (i := 0) (by show (["_law_k", "_law_base"] : List Str).Nodup; decide +kernel) rfl (by first | exact Or.inl rfl | exact Or.inr rfl))) (fun _ _ _ _ _ => pif_nil) (fun _ _ _ _ _ => (pe_slice (slE K rfl) (qv 1) po_none (qo_some (pe_op op_addK (qv 0) pe_int))))))) pss_nil)
      (pss_cons (ps_set (i := 3) sc__law_names.nd rfl (by first | exact Or.inl rfl | exact Or.inr rfl) (pe_slice (slE K rfl) (qv 3) po_none (qo_some (pe_op op_addK pe_int (pe_op op_modK (pe_op op_fdivK (qv 0) pe_int) pe_int)))))
      (pss_cons (ps_set (i := 4) sc__law_names.nd rfl (by first | exact Or.inl rfl | exact Or.inr rfl) (pe_op op_modK (pe_op op_fdivK (qv 0) pe_int) (pe_callB (lenE K rfl) rfl T.b_len bb_len (pa_cons (qv 3) pa_nil))))
      (pss_one (ps_ret (qe_comp (nt := 1) (fi := [3, 2, 4, 0]) (N' := ["_law_k", "_law_base", "_law_abc", "_law_at", "_law_cell"]) rfl (cscope rfl (by decide +kernel)) (cnames (N := ["_law_cell", "_law_many", "_law_abc", "_law_base", "_law_at"]) (sc := defScope s__law_names) rfl rfl (by decide +kernel)) (gk_name (by decide)) (qi_range1 rfl T.b_range (qv 1)) (fun _ _ _ _ _ => (pg_name (i := 0) (by show (["_law_k", "_law_base", "_law_abc", "_law_at", "_law_cell"] : List Str).Nodup; decide +kernel) rfl (by first | exact Or.inl rfl | exact Or.inr rfl))) (fun _ _ _ _ _ => pif_nil) (fun _ _ _ _ _ => (pe_op op_addK (pe_op op_addK (pe_slice (slE K rfl) (qv 1) po_none (qo_some (qv 3))) (pe_ix (ixE K rfl) (qv 2) (pe_op op_modK (pe_op op_addK (pe_op op_fdivK (qv 4) pe_int) (pe_op op_mulK pe_int (qv 0))) pe_int) (fun _ _ => rfl))) (pe_slice (slE K rfl) (qv 1) (qo_some (pe_op op_addK (qv 3) pe_int)) po_none))))))))))), ?_⟩
  rename_i c m
  obtain ⟨h1, h2, q⟩ := h
  walk_at "rd"
  refine ⟨by omega, by omega, fun p H1 hp s1 e1 => .inl ⟨⟨_, SqL.of e1⟩, fun D hD => ?_⟩⟩
  refine comp_list (item := V.int) (xs := stream (c / 3) 8) (h := fun e => [sgn (abcAt e)]) hD (SqL.of e1) (by simp [stream_len]) (fun _ => by simp) ?_ ?_
  · intro e H2 out non he s2 ho hn
    walk_at "rd"
    exact ⟨_, abc_at e, ho _ _ rfl (Same.refl _)⟩
  intro H2 s2 e2
  have eb : (stream (c / 3) 8).flatMap (fun e => [sgn (abcAt e)]) = (nameBase c).map sgn := by
    rw [flat_one' (fun e => sgn (abcAt e))]
    unfold nameBase
    rw [List.map_map]
    rfl
  rw [eb] at e2
  have hb := nameBase_len c
  have hs := nameShort_len c
  have s12 := s1.trans s2
  refine ⟨nameBase c, SqL.of e2, by omega, ?_⟩
  refine ite2 (fun g1 => ite2 (fun g2 => ?a) fun g2 => ?b) fun g1 => ?b'
  case a =>
    have g : c % 3 = 1 ∧ m.toNat ≤ 8 := ⟨g1, by omega⟩
    refine ⟨by omega, by omega, fun D2 hD2 => ?_⟩
    refine comp_range (h := fun k => [tx (nameA c k)]) hD2 (by omega) (fun _ => by simp) ?_ ?_
    · intro k H3 out non hk s3 ho hn
      walk_at "rd"
      refine ⟨by omega, by omega, by omega, ?_⟩
      rw [show ((k : Int) + 1).toNat = k + 1 by omega]
      exact ho _ _ rfl (Same.refl _)
    · intro H3 s3 e3
      refine q D2 H3 (s12.free hD2) (s12.trans s3) ?_
      rw [e3, flat_one' (fun k => tx (nameA c k))]
      unfold nameL
      rw [List.map_map]
      simp only [if_pos g]
      rfl
  case' b => have g : ¬ (c % 3 = 1 ∧ m.toNat ≤ 8) := by omega
  case' b' => have g : ¬ (c % 3 = 1 ∧ m.toNat ≤ 8) := by omega
  all_goals (
    have hsn : (nameBase c).take (1 + c / 3 % 8).toNat = nameShort c := rfl
    rw [hsn]
    have hat : 0 ≤ c / 24 % ((nameShort c).length : Int) := Int.emod_nonneg _ (by omega)
    have hat2 : c / 24 % ((nameShort c).length : Int) < (nameShort c).length := Int.emod_lt_of_pos _ (by omega)
    refine ⟨by omega, by omega, by omega, by omega, by omega, by omega, by omega, fun D2 hD2 => ?_⟩
    refine comp_range (h := fun k => [tx (nameB c k)]) hD2 (by omega) (fun _ => by simp) ?_ ?_
    · intro k H3 out non hk s3 ho hn
      walk_at "rd"
      refine ⟨by omega, by omega, by omega, .inr ⟨by omega, by omega⟩, _, abc_at _, by rw [List.length_take]; omega, by omega, by omega, by omega, by simp only [List.length_append, List.length_take, List.length_drop, List.length_singleton]; omega, ?_⟩
      rw [show (c / 24 % ((nameShort c).length : Int) + 1).toNat = (c / 24 % ((nameShort c).length : Int)).toNat + 1 by omega]
      exact ho _ _ rfl (Same.refl _)
    · intro H3 s3 e3
      refine q D2 H3 (s12.free hD2) (s12.trans s3) ?_
      rw [e3, flat_one' (fun k => tx (nameB c k))]
      unfold nameL
      rw [List.map_map]
      simp only [if_neg g]
      rfl)
abbrev Fld := List Nat × Nat
def FldAt (H : Hp) (x : Fld) (v : V) : Prop := ∃ t, v = .ref t ∧ H t = some (.tup [tx x.1, .int x.2])
def Lay (H : Hp) (p : Addr) (ls : List Fld) : Prop := ∃ vs, H p = some (.lst vs) ∧ Paired (FldAt H) ls vs
theorem flds_keep {H H' : Hp} (k : ∀ t vs, H t = some (.tup vs) → H' t = some (.tup vs)) {ls : List Fld} {vs : List V} (h : Paired (FldAt H) ls vs) : Paired (FldAt H') ls vs :=
  L2.Paired.mapP h fun _ _ ⟨t, e, q⟩ => ⟨t, e, k _ _ q⟩
theorem Lay.same {H H' : Hp} {p : Addr} {ls : List Fld} (h : Lay H p ls) (s : Same H H') : Lay H' p ls := by
  obtain ⟨vs, e, pr⟩ := h
  exact ⟨vs, s _ _ e, flds_keep (fun t us q => s _ _ q) pr⟩
def fldD (x : Fld) : D := .t [.f (tx x.1), .f (.int x.2)]
theorem lay_deep {H : Hp} {p : Addr} {ls : List Fld} (h : Lay H p ls) : Deep K H 2 (.ref p) (.l (ls.map fldD)) := by
  obtain ⟨vs, e, pr⟩ := h
  refine .inr (.inl ⟨p, vs, ls.map fldD, rfl, rfl, SqL.of e, ?_⟩)
  clear e
  induction pr with
  | nil => exact .nil
  | cons r _ ih =>
    obtain ⟨t, rfl, q⟩ := r
    exact .cons (.inr (.inr ⟨t, _, _, rfl, rfl, SqT.of q, .cons (deep_flat 0 rfl) (.cons (deep_flat 0 rfl) .nil)⟩)) ih
def widthL (ls : List Fld) : Nat := (ls.map (·.2)).sum
theorem paired_zip {α β : Type} {F : α → β → Prop} {l : List α} {m : List β} (h : Paired F l m) : (l.zip m).map (·.2) = m ∧ ∀ x ∈ l.zip m, F x.1 x.2 := by
  induction h with
  | nil => exact ⟨rfl, fun x hx => by cases hx⟩
  | cons r _ ih => exact ⟨by rw [List.zip_cons_cons, List.map_cons, ih.1], fun x hx => by
      rw [List.zip_cons_cons] at hx
      rcases List.mem_cons.mp hx with rfl | hx
      · exact r
      · exact ih.2 x hx⟩
theorem zip_fst {α β : Type} : ∀ {l : List α} {m : List β}, l.length = m.length → (l.zip m).map (·.1) = l
  | [], _, _ => rfl
  | x :: l, [], h => by cases h
  | x :: l, y :: m, h => by rw [List.zip_cons_cons, List.map_cons, zip_fst (by simpa using h)]
theorem sum_cast : ∀ l : List Nat, (l.map fun n : Nat => (n : Int)).sum = (l.sum : Nat)
  | [] => rfl
  | x :: l => by rw [List.map_cons, List.sum_cons, List.sum_cons, sum_cast l]; omega
def sp_layout_width (K : PySem.W.Frag) : Sp := fun vs H Q _ => match vs with
  | [.ref p] => ∃ ls : List Fld, Lay H p ls ∧ ls.length ≤ 1000 ∧ ∀ H', Same H H' → Q (.int (widthL ls : Nat)) H'
  | _ => False
theorem ok_layout_width (T : Top K mg) : Callee P w K mg base 1 "layout_width" ["layout"] (sp_layout_width K) := by
  refine T.f_layout_width.cal sc_layout_width (by intro vs H Q E h; unfold sp_layout_width at h; split at h <;> first | rfl | exact h.elim) (fun _ _ _ _ _ _ us hl => match us, hl with | [_], _ => rfl) (fun f cdv A outer s H vs Q E hr h => ?_)
  unfold sp_layout_width at h
  split at h
  case h_2 => exact h.elim
  refine ⟨_, (pss_one (ps_ret (pe_callB (call_sumK K rfl rfl) rfl T.b_sum bb_sum (pa_cons (qe_comp (nt := 2) (fi := []) (N' := ["name", "size"]) rfl (cscope rfl (by decide +kernel)) (cnames (N := ["layout"]) (sc := defScope s_layout_width) rfl rfl (by decide +kernel)) (gk_tup2 (by decide) (by decide)) (iterE K rfl (qv 0)) (fun _ _ _ _ _ => (tupE K rfl rfl (n := 2) (pgs_cons (pg_name (i := 0) (by show (["name", "size"] : List Str).Nodup; decide +kernel) rfl (by first | exact Or.inl rfl | exact Or.inr rfl)) (pgs_cons (pg_name (i := 1) (by show (["name", "size"] : List Str).Nodup; decide +kernel) rfl (by first | exact Or.inl rfl | exact Or.inr rfl)) pgs_nil)))) (fun _ _ _ _ _ => pif_nil) (fun _ _ _ _ _ => (qv 1))) pa_nil)))), ?_⟩
  rename_i p
  obtain ⟨ls, ⟨vs, e0, pr⟩, hn, q⟩ := h
  have hl := pr.length
  obtain ⟨z1, z2⟩ := paired_zip pr
  walk_at "rd"
  refine .inl ⟨⟨_, SqL.of e0⟩, fun D hD => ?_⟩
  refine comp_list (item := fun x : Fld × V => x.2) (xs := ls.zip vs) (h := fun x => [V.int x.1.2]) hD (by rw [z1]; exact SqL.of e0) (by rw [List.length_zip]; omega) (fun _ => by simp) ?_ ?_
  · intro x H1 out non hx s1 ho _
    obtain ⟨t, ex, et⟩ := z2 x hx
    rw [ex]
    refine ⟨t, [_, _], rfl, SqT.of (s1 _ _ et), rfl, _, [_], rfl, _, [], rfl, rfl, ?_⟩
    walk_at "rd"
    exact ho _ _ rfl (Same.refl _)
  · intro H1 s1 e1
    rw [show (ls.zip vs).flatMap (fun x => [V.int x.1.2]) = (ls.map fun x : Fld => (x.2 : Int)).map V.int by
      rw [← zip_fst (l := ls) (m := vs) hl]
      simp only [List.map_map]
      rw [zip_fst hl]
      induction ls.zip vs with
      | nil => rfl
      | cons x r ih => rw [List.flatMap_cons, ih]; rfl] at e1
    walk_at "rd"
    refine ⟨_, SqL.of e1, ?_⟩
    have := q H1 s1
    unfold widthL at this
    rw [show (ls.map fun x : Fld => (x.2 : Int)).sum = ((ls.map (·.2)).sum : Nat) by rw [← sum_cast, List.map_map]; rfl]
    exact this
/-- where the field stands -/
def spanF : List Fld → List Nat → Nat → Option (Nat × Nat)
  | [], _, _ => none
  | (f, z) :: r, n, a => if f = n then some (a, a + z) else spanF r n (a + z)
theorem spanF_skip : ∀ (l r : List Fld) (n : List Nat) (a : Nat), (∀ x ∈ l, ¬ x.1 = n) → spanF (l ++ r) n a = spanF r n (a + widthL l)
  | [], r, n, a, _ => rfl
  | (f, z) :: l, r, n, a, h => by
    have h0 : ¬ f = n := h (f, z) List.mem_cons_self
    rw [List.cons_append, spanF, if_neg h0, spanF_skip l r n (a + z) fun x hx => h x (List.mem_cons_of_mem _ hx)]
    unfold widthL
    rw [List.map_cons, List.sum_cons, Nat.add_assoc]
theorem st_len (n : List Nat) : (st n).length = n.length := by simp [Str.length]
def sp_field_span (K : PySem.W.Frag) : Sp := fun vs H Q E => match vs with
  | [.ref p, .str n] => ∃ ls : List Fld, Lay H p ls ∧ (∀ c ∈ n.cps.toList, c < 16 ^ 8) ∧ n.cps.toList.length ≤ 1000 ∧
      (∀ a b, spanF ls n.cps.toList 0 = some (a, b) → ∀ t H', H t = none → Same H H' → H' t = some (.tup [.int (a : Nat), .int (b : Nat)]) → Q (.ref t) H') ∧
      (spanF ls n.cps.toList 0 = none → ∀ H', Same H H' → E (.ref (xA K "NoField")) none H')
  | _ => False
theorem ok_field_span (T : Top K mg) : CalleeX P w K mg base 1 "field_span" ["layout", "name"] (sp_field_span K) := by
  refine T.f_field_span.calX sc_field_span (by intro vs H Q E h; unfold sp_field_span at h; split at h <;> first | rfl | exact h.elim) (fun _ _ _ _ _ _ us hl => match us, hl with | [_, _], _ => rfl) (fun f cdv A outer s H vs Q E hr h => ?_)
  unfold sp_field_span at h
  split at h
  case h_2 => exact h.elim
  refine ⟨_, (pss_cons (ps_set (i := 2) sc_field_span.nd rfl (by first | exact Or.inl rfl | exact Or.inr rfl) pe_int)
      (pss_cons (qs_for PassesOwn.leaving rfl (iterE K rfl (qv 0)) (tupE K rfl rfl (n := 2) (pgs_cons (pg_name (i := 3) sc_field_span.nd rfl (by first | exact Or.inl rfl | exact Or.inr rfl)) (pgs_cons (pg_name (i := 4) sc_field_span.nd rfl (by first | exact Or.inl rfl | exact Or.inr rfl)) pgs_nil))) (pss_cons (ps_if (qt_cmp op_eqK (qv 3) (qv 1)) (pss_one (ps_ret (pe_tup (pa_cons (qv 2) (pa_cons (pe_op op_addK (qv 2) (qv 4)) pa_nil))))) pss_nil)
      (pss_one (ps_set (i := 2) sc_field_span.nd rfl (by first | exact Or.inl rfl | exact Or.inr rfl) (pe_op op_addK (qv 2) (qv 4))))))
      (pss_one (ps_raise rfl raises_fn rfl T.x_NoField.1 T.x_NoField.2 (pa_cons (pe_fs (pj_cons (qs [110, 111, 32, 102, 105, 101, 108, 100, 32]) (pj_cons (pe_fmtR (qv 1)) pj_nil))) pa_nil))))), ?_⟩
  rename_i p s
  obtain ⟨n, rfl⟩ : ∃ x, s = st x := ⟨_, (st_eta s).symm⟩
  obtain ⟨ls, ⟨vs, e0, pr⟩, hc, hn, q1, q2⟩ := h
  simp only [st_cps] at q1 q2 hc hn
  have hl := pr.length
  walk_at "rd"
  refine .inl ⟨⟨_, SqL.of e0⟩, ?_⟩
  refine loop_list (xs := vs) (fun i σ H' => ∃ u v, σ = [some (.ref p), some (.str (st n)), some (.int (widthL (ls.take i) : Nat)), u, v] ∧ Same H H' ∧ ∀ x ∈ ls.take i, ¬ x.1 = n) ⟨none, none, rfl, Same.refl _, fun x hx => by simp at hx⟩ (fun i σ H' _ ⟨_, _, _, z, _⟩ => SqL.of (z _ _ e0)) ?_ ?_
  · rintro i x σ H1 hx ⟨u, v, rfl, s1, h1⟩
    have hi : i < vs.length := (List.getElem?_eq_some_iff.mp hx).1
    have hil : i < ls.length := by omega
    obtain ⟨y, hy, t, ey, et⟩ := paired_at pr (List.getElem?_eq_getElem hil)
    obtain rfl : x = .ref t := by rw [hy] at hx; rw [← Option.some.inj hx, ey]
    refine ⟨t, [_, _], rfl, SqT.of (s1 _ _ et), rfl, _, [_], rfl, _, [], rfl, rfl, ?_⟩
    walk_at "rd"
    have sp : spanF ls n 0 = spanF (ls.drop i) n (0 + widthL (ls.take i)) := by
      have := spanF_skip (ls.take i) (ls.drop i) n 0 h1
      rw [List.take_append_drop] at this
      exact this
    rw [List.drop_eq_getElem_cons hil, Nat.zero_add] at sp
    have w1 : widthL (ls.take (i + 1)) = widthL (ls.take i) + ls[i].2 := by
      unfold widthL
      rw [List.take_add_one, List.getElem?_eq_getElem hil, Option.toList_some, List.map_append, List.sum_append]
      simp
    refine ite2 (fun g => ⟨by decide, fun t2 ht2 => ?_⟩) fun g => ⟨some (tx ls[i].1), some (.int ls[i].2), ?_, s1, fun y hy => ?_⟩
    · refine q1 (widthL (ls.take i)) (widthL (ls.take i) + ls[i].2) ?_ t2 _ (s1.free ht2) (s1.trans (same_new ht2 _)) ?_
      · rw [sp, show ls[i] = (ls[i].1, ls[i].2) from rfl, spanF, if_pos g]
      · rw [upd_same]
        simp
    · rw [w1]
      simp
    · rw [List.take_add_one, List.getElem?_eq_getElem hil] at hy
      rcases List.mem_append.mp hy with hy | hy
      · exact h1 y hy
      · have e : y = ls[i] := by simpa using hy
        rw [e]
        exact g
  · rintro σ H1 ⟨u, v, rfl, s1, h1⟩
    walk_at "rd"
    have e : spanF ls n 0 = none := by
      have := spanF_skip ls [] n 0 fun x hx => h1 x (by rw [← hl, List.take_length]; exact hx)
      rw [List.append_nil] at this
      exact this
    have hz : (st n).length = n.length := st_len n
    refine ⟨by rw [st_len]; exact Nat.le_of_lt (sizeBig (by decide)), hc, by omega, fun z hzz => ⟨?_, fun _ => ⟨by decide, q2 e H1 s1⟩⟩⟩
    rw [st_len]
    exact Nat.le_of_lt (sizeBig (by simp only [List.length_cons, List.length_nil]; omega))
theorem abcAt_lt (k : Int) : 97 ≤ abcAt k ∧ abcAt k ≤ 122 := by
  obtain ⟨j, hj⟩ : ∃ j : Nat, k % 26 = j := ⟨(k % 26).toNat, by omega⟩
  have h26 : j < 26 := by omega
  unfold abcAt
  rw [hj, Int.toNat_natCast]
  have : ∀ j < 26, 97 ≤ (abcL[j]?).getD 0 ∧ (abcL[j]?).getD 0 ≤ 122 := by decide
  exact this j h26
theorem abcAt_inj {k l : Int} (h : abcAt k = abcAt l) : k % 26 = l % 26 := by
  obtain ⟨i, hi⟩ : ∃ j : Nat, k % 26 = j := ⟨(k % 26).toNat, by omega⟩
  obtain ⟨j, hj⟩ : ∃ j : Nat, l % 26 = j := ⟨(l % 26).toNat, by omega⟩
  unfold abcAt at h
  rw [hi, hj, Int.toNat_natCast, Int.toNat_natCast] at h
  have : ∀ i < 26, ∀ j < 26, (abcL[i]?).getD 0 = (abcL[j]?).getD 0 → i = j := by decide
  rw [hi, hj, this i (by omega) j (by omega) h]
theorem nameB_inj {c : Int} {k l : Nat} (hk : k < 26) (hl : l < 26) (h : nameB c k = nameB c l) : k = l := by
  unfold nameB at h
  rw [List.append_assoc, List.append_assoc] at h
  have h2 := List.append_cancel_left h
  have h3 : abcAt (c / 3 + 7 * k) = abcAt (c / 3 + 7 * l) := by
    injection h2
  have := abcAt_inj h3
  omega
theorem nameA_inj {c : Int} {k l : Nat} (hk : k < 8) (hl : l < 8) (h : nameA c k = nameA c l) : k = l := by
  have := congrArg List.length h
  unfold nameA at this
  rw [List.length_take, List.length_take, nameBase_len] at this
  omega
theorem nameL_nodup {c : Int} {m : Nat} (hm : m ≤ 26) : (nameL c m).Nodup := by
  unfold nameL
  rw [List.nodup_iff_pairwise_ne, List.pairwise_map]
  refine List.Pairwise.imp_of_mem ?_ (List.nodup_iff_pairwise_ne.mp List.nodup_range)
  intro k l hk hl ne e
  rw [List.mem_range] at hk hl
  apply ne
  split at e
  · rename_i g
    exact nameA_inj (by omega) (by omega) e
  · exact nameB_inj (by omega) (by omega) e
theorem nameL_ok {c : Int} {m : Nat} : ∀ n ∈ nameL c m, n.length ≤ 8 ∧ ∀ x ∈ n, 97 ≤ x ∧ x ≤ 122 := by
  have base : ∀ x ∈ nameBase c, 97 ≤ x ∧ x ≤ 122 := fun x hx => by
    unfold nameBase at hx
    obtain ⟨y, _, rfl⟩ := List.mem_map.mp hx
    exact abcAt_lt y
  have short : ∀ x ∈ nameShort c, 97 ≤ x ∧ x ≤ 122 := fun x hx => base x (List.mem_of_mem_take hx)
  intro n hn
  unfold nameL at hn
  obtain ⟨k, hk, rfl⟩ := List.mem_map.mp hn
  split
  · unfold nameA
    exact ⟨by rw [List.length_take, nameBase_len]; omega, fun x hx => base x (List.mem_of_mem_take hx)⟩
  · have hs := nameShort_len c
    have hat : 0 ≤ c / 24 % ((nameShort c).length : Int) := Int.emod_nonneg _ (by omega)
    have hat2 : c / 24 % ((nameShort c).length : Int) < (nameShort c).length := Int.emod_lt_of_pos _ (by omega)
    unfold nameB
    refine ⟨?_, fun x hx => ?_⟩
    · simp only [List.length_append, List.length_take, List.length_drop, List.length_singleton]
      omega
    · rcases List.mem_append.mp hx with hx | hx
      · rcases List.mem_append.mp hx with hx | hx
        · exact short x (List.mem_of_mem_take hx)
        · rw [List.mem_singleton.mp hx]
          exact abcAt_lt _
      · exact short x (List.mem_of_mem_drop hx)
theorem nameL_len {c : Int} {m : Nat} : (nameL c m).length = m := by simp [nameL]
/-- the span of the k-th field, of a name that no field has -/
theorem spanF_at : ∀ (ls : List Fld) (n : List Nat) (a k : Nat) (z : Nat), (ls.map (·.1)).Nodup → ls[k]? = some (n, z) → spanF ls n a = some (a + widthL (ls.take k), a + widthL (ls.take k) + z)
  | [], _, _, _, _, _, h => by simp at h
  | (f, y) :: l, n, a, 0, z, nd, h => by
    simp only [List.getElem?_cons_zero, Option.some.injEq, Prod.mk.injEq] at h
    rw [spanF, if_pos h.1, h.2]
    simp [widthL]
  | (f, y) :: l, n, a, k + 1, z, nd, h => by
    rw [List.getElem?_cons_succ] at h
    rw [List.map_cons, List.nodup_cons] at nd
    have ne : ¬ f = n := fun e => nd.1 (by rw [e]; exact List.mem_map.mpr ⟨_, List.mem_of_getElem? h, rfl⟩)
    rw [spanF, if_neg ne, spanF_at l n (a + y) k z nd.2 h]
    simp only [widthL, List.take_succ_cons, List.map_cons, List.sum_cons, Nat.add_assoc]
theorem spanF_none : ∀ (ls : List Fld) (n : List Nat) (a : Nat), n ∉ ls.map (·.1) → spanF ls n a = none
  | [], _, _, _ => rfl
  | (f, y) :: l, n, a, h => by
    rw [List.map_cons, List.mem_cons, not_or] at h
    rw [spanF, if_neg (fun e => h.1 e.symm), spanF_none l n _ h.2]
theorem cutV_from (xs : List V) (k : Nat) (h : k ≤ xs.length) : cutV xs (some (k : Int)) none = xs.drop k := by
  unfold cutV
  rw [HT.sIx_nat, HT.sIx_none, Nat.min_eq_left h, List.take_of_length_le (by rw [List.length_drop]; omega)]
theorem cutV_to (xs : List V) (k : Nat) (h : k ≤ xs.length) : cutV xs none (some (k : Int)) = xs.take k := by
  unfold cutV
  rw [HT.sIx_nat, HT.sIx_none, Nat.min_eq_left h]
  simp
theorem rot_nodup {N : List (List Nat)} (h : N.Nodup) : (N.drop 1 ++ N.take 1).Nodup := by
  rw [← List.take_append_drop 1 N] at h
  exact (List.perm_append_comm.nodup_iff).mp h
theorem paired_mk {α β : Type} {F : α → β → Prop} : ∀ {l : List α} {m : List β}, l.length = m.length → (∀ (k : Nat) x y, l[k]? = some x → m[k]? = some y → F x y) → Paired F l m
  | [], [], _, _ => .nil
  | [], _ :: _, h, _ => by cases h
  | _ :: _, [], h, _ => by cases h
  | x :: l, y :: m, h, k => .cons (k 0 x y rfl rfl) (paired_mk (by simpa using h) fun j a b e1 e2 => k (j + 1) a b (by simpa using e1) (by simpa using e2))
theorem zip_snd {α β : Type} : ∀ {l : List α} {m : List β}, l.length = m.length → (l.zip m).map (·.2) = m
  | [], [], _ => rfl
  | [], _ :: _, h => by cases h
  | x :: l, [], h => by cases h
  | x :: l, y :: m, h => by rw [List.zip_cons_cons, List.map_cons, zip_snd (by simpa using h)]
theorem sum_le : ∀ {zs : List Nat}, (∀ z ∈ zs, z ≤ 40) → zs.sum ≤ 40 * zs.length
  | [], _ => by simp
  | z :: zs, h => by
    have := sum_le fun x hx => h x (List.mem_cons_of_mem z hx)
    have := h z List.mem_cons_self
    rw [List.sum_cons, List.length_cons]
    omega
theorem sum_take_le : ∀ (zs : List Nat) (k : Nat) (z : Nat), zs[k]? = some z → (zs.take k).sum + z ≤ zs.sum
  | [], _, _, h => by simp at h
  | y :: zs, 0, z, h => by
    simp only [List.getElem?_cons_zero, Option.some.injEq] at h
    subst h
    simp
  | y :: zs, k + 1, z, h => by
    rw [List.getElem?_cons_succ] at h
    have := sum_take_le zs k z h
    rw [List.take_succ_cons, List.sum_cons, List.sum_cons]
    omega
theorem ints_of {H : Hp} {p : Addr} {zs : List Nat} (e : H p = some (.lst (zs.map fun z : Nat => V.int z))) : SqL K H p ((zs.map fun z : Nat => (z : Int)).map V.int) := by
  rw [List.map_map]
  exact SqL.of e
/-- what was told of a field -/
def look (seen : List (List Nat × List Nat)) (n : List Nat) : Option (List Nat) := (seen.find? fun x => decide (x.1 = n)).map (·.2)
theorem look_none {seen : List (List Nat × List Nat)} {n : List Nat} : look seen n = none ↔ n ∉ seen.map (·.1) := by
  unfold look
  rw [Option.map_eq_none_iff, List.find?_eq_none]
  constructor
  · intro h hm
    obtain ⟨x, hx, rfl⟩ := List.mem_map.mp hm
    have := h x hx
    simp at this
  · intro h x hx e
    exact h (List.mem_map.mpr ⟨x, hx, by simpa using e⟩)
theorem look_put {seen : List (List Nat × List Nat)} {n s m : List Nat} (h : look seen n = none) : look (seen ++ [(n, s)]) m = if m = n then some s else look seen m := by
  unfold look at h ⊢
  rw [List.find?_append]
  by_cases e : m = n
  · subst e
    rw [Option.map_eq_none_iff] at h
    rw [h, if_pos rfl]
    simp
  · rw [if_neg e]
    have : [(n, s)].find? (fun x => decide (x.1 = m)) = none := by simp; exact fun z => e z.symm
    rw [this, Option.or_none]
def valOf (seen : List (List Nat × List Nat)) (x : Fld) : List Nat := (look seen x.1).getD (List.replicate x.2 45)
def rowOf (ls : List Fld) (seen : List (List Nat × List Nat)) : List Nat := ls.flatMap (valOf seen)
def Fits (ls : List Fld) (seen : List (List Nat × List Nat)) : Prop := ∀ x ∈ ls, ∀ s, look seen x.1 = some s → s.length = x.2
theorem val_len {seen : List (List Nat × List Nat)} {x : Fld} (h : ∀ s, look seen x.1 = some s → s.length = x.2) : (valOf seen x).length = x.2 := by
  unfold valOf
  cases e : look seen x.1 with
  | none => simp
  | some s => simp [h s e]
theorem row_of_len : ∀ {ls : List Fld} {seen : List (List Nat × List Nat)}, Fits ls seen → (rowOf ls seen).length = widthL ls
  | [], _, _ => rfl
  | x :: ls, seen, h => by
    have h1 := row_of_len (ls := ls) (seen := seen) fun y hy => h y (List.mem_cons_of_mem _ hy)
    have h2 := val_len (h x List.mem_cons_self)
    unfold rowOf widthL at h1 ⊢
    rw [List.flatMap_cons, List.length_append, h1, h2, List.map_cons, List.sum_cons]
theorem span_split : ∀ (ls : List Fld) (n : List Nat) (c a b : Nat), spanF ls n c = some (a, b) → ∃ l1 z l2, ls = l1 ++ (n, z) :: l2 ∧ n ∉ l1.map (·.1) ∧ a = c + widthL l1 ∧ b = a + z
  | [], _, _, _, _, h => by cases h
  | (f, z) :: l, n, c, a, b, h => by
    rw [spanF] at h
    split at h
    · rename_i e
      cases h
      subst e
      exact ⟨[], z, l, rfl, by simp, rfl, rfl⟩
    · rename_i e
      obtain ⟨l1, y, l2, h1, h2, h3, h4⟩ := span_split l n _ a b h
      refine ⟨(f, z) :: l1, y, l2, by rw [h1]; rfl, ?_, ?_, h4⟩
      · rw [List.map_cons, List.mem_cons, not_or]
        exact ⟨fun q => e q.symm, h2⟩
      · rw [h3]
        simp only [widthL, List.map_cons, List.sum_cons]
        omega
theorem row_skip {l : List Fld} {seen : List (List Nat × List Nat)} {n s : List Nat} (hn : look seen n = none) (h : n ∉ l.map (·.1)) : rowOf l (seen ++ [(n, s)]) = rowOf l seen := by
  unfold rowOf
  induction l with
  | nil => rfl
  | cons x l ih =>
    rw [List.map_cons, List.mem_cons, not_or] at h
    rw [List.flatMap_cons, List.flatMap_cons, ih h.2]
    congr 1
    unfold valOf
    rw [look_put hn, if_neg (fun q => h.1 q.symm)]
theorem row_put {ls : List Fld} {seen : List (List Nat × List Nat)} {n s : List Nat} {a b : Nat} (nd : (ls.map (·.1)).Nodup) (hf : Fits ls seen) (h : spanF ls n 0 = some (a, b)) (hl : s.length = b - a) (hn : look seen n = none) :
    rowOf ls (seen ++ [(n, s)]) = (rowOf ls seen).take a ++ s ++ (rowOf ls seen).drop b ∧ Fits ls (seen ++ [(n, s)]) := by
  obtain ⟨l1, z, l2, rfl, h1, h2, h3⟩ := span_split ls n 0 a b h
  rw [List.map_append, List.map_cons, List.nodup_append] at nd
  have n2 : n ∉ l2.map (·.1) := (List.nodup_cons.mp nd.2.1).1
  have f1 : Fits l1 seen := fun x hx => hf x (List.mem_append_left _ hx)
  have w1 := row_of_len f1
  have e0 : rowOf (l1 ++ (n, z) :: l2) seen = rowOf l1 seen ++ (List.replicate z 45 ++ rowOf l2 seen) := by
    unfold rowOf
    rw [List.flatMap_append, List.flatMap_cons]
    congr 2
    unfold valOf
    rw [hn]
    rfl
  have e1 : rowOf (l1 ++ (n, z) :: l2) (seen ++ [(n, s)]) = rowOf l1 seen ++ (s ++ rowOf l2 seen) := by
    have r1 := row_skip (s := s) hn h1
    have r2 := row_skip (s := s) hn n2
    unfold rowOf at r1 r2 ⊢
    rw [List.flatMap_append, List.flatMap_cons, r1, r2]
    congr 2
    unfold valOf
    rw [look_put hn, if_pos rfl]
    rfl
  have ea : a = (rowOf l1 seen).length := by rw [w1, h2]; omega
  refine ⟨?_, fun x hx t ht => ?_⟩
  · rw [e1, e0]
    subst ea
    rw [List.take_left', List.append_assoc]
    · congr 2
      rw [List.drop_append, List.drop_eq_nil_of_le (by omega), List.nil_append]
      rw [show b - (rowOf l1 seen).length = (List.replicate z 45).length by rw [List.length_replicate]; omega, List.drop_left]
    · rfl
  · rw [look_put hn] at ht
    split at ht
    · rename_i e
      cases ht
      rcases List.mem_append.mp hx with q | q
      · exact absurd (List.mem_map.mpr ⟨x, q, e⟩) h1
      · rcases List.mem_cons.mp q with q | q
        · rw [q]; show s.length = z; omega
        · exact absurd (List.mem_map.mpr ⟨x, q, e⟩) n2
    · exact hf x hx t ht
theorem row_bare : ∀ ls : List Fld, rowOf ls [] = List.replicate (widthL ls) 45
  | [] => rfl
  | x :: ls => by
    have := row_bare ls
    unfold rowOf at this ⊢
    rw [List.flatMap_cons, this]
    show List.replicate x.2 45 ++ _ = _
    rw [List.replicate_append_replicate]
    rfl
/-- a thing of the law's kinds -/
def Thing (H : Hp) (v : V) : Prop := match v with
  | .non => True
  | .bl _ => True
  | .int i => i = 0 ∨ i = 10
  | .str y => y.cps.toList.length ≤ 100 ∧ ∀ c ∈ y.cps.toList, c < 16 ^ 8
  | .ref p => ∃ ls, Few ls ∧ (H p = some (.lst (ls.map fun l => V.str (st l))) ∨ H p = some (.tup (ls.map fun l => V.str (st l))))
  | _ => False
theorem Thing.same {H H' : Hp} {v : V} (k : Thing H v) (s : Same H H') : Thing H' v := by
  cases v <;> try exact k
  obtain ⟨ls, h1, h2 | h2⟩ := k
  · exact ⟨ls, h1, .inl (s _ _ h2)⟩
  · exact ⟨ls, h1, .inr (s _ _ h2)⟩
theorem Thing.known {H : Hp} {v : V} (k : Thing H v) : Known H v := by
  cases v <;> try exact k
  · trivial
  · have := k.1; show _ ≤ 1000; omega
  · obtain ⟨ls, _, h2 | h2⟩ := k
    · exact .inl ⟨_, h2⟩
    · exact .inr ⟨_, h2⟩
abbrev Part := List Nat × V
def PartAt (H : Hp) (x : Part) (v : V) : Prop := ∃ t, v = .ref t ∧ H t = some (.tup [tx x.1, x.2])
def Parts (H : Hp) (p : Addr) (ps : List Part) : Prop := (∃ vs, H p = some (.lst vs) ∧ Paired (PartAt H) ps vs) ∧ ∀ x ∈ ps, Thing H x.2 ∧ x.1.length ≤ 8 ∧ ∀ c ∈ x.1, c < 1000
theorem parts_keep {H H' : Hp} (k : ∀ t vs, H t = some (.tup vs) → H' t = some (.tup vs)) {ls : List Part} {vs : List V} (h : Paired (PartAt H) ls vs) : Paired (PartAt H') ls vs :=
  L2.Paired.mapP h fun _ _ ⟨t, e, q⟩ => ⟨t, e, k _ _ q⟩
theorem Parts.same {H H' : Hp} {p : Addr} {ps : List Part} (h : Parts H p ps) (s : Same H H') : Parts H' p ps := by
  obtain ⟨⟨vs, e, pr⟩, h2⟩ := h
  exact ⟨⟨vs, s _ _ e, parts_keep (fun t us q => s _ _ q) pr⟩, fun x hx => ⟨(h2 x hx).1.same s, (h2 x hx).2⟩⟩
/-- how the parts come out -/
inductive Res where
  | row (r : List Nat) | no | twice | misfit
def txtV : V → List Nat
  | .str a => a.cps.toList
  | _ => []
def resF (ls : List Fld) : List Part → List (List Nat × List Nat) → Res
  | [], seen => .row (rowOf ls seen)
  | (n, v) :: ps, seen => match spanF ls n 0 with
    | none => .no
    | some (a, b) => if n ∈ seen.map (·.1) then .twice else if textOf v ((b : Int) - a) [48, 49, 45] = true then resF ls ps (seen ++ [(n, txtV v)]) else .misfit
def resX (K : PySem.W.Frag) (H : Hp) (Q : VK) (E : XK) : Res → Prop
  | .row r => ∀ H', Same H H' → Q (tx r) H'
  | .no => ∀ H', Same H H' → E (.ref (xA K "NoField")) none H'
  | .twice => ∀ H', Same H H' → E (.ref (xA K "Twice")) none H'
  | .misfit => ∀ H', Same H H' → E (.ref (xA K "Misfit")) none H'
theorem text_len {v : V} {w : Int} {l : List Nat} (h : textOf v w l = true) : ∃ x, v = tx x ∧ (x.length : Int) = w ∧ txtV v = x := by
  cases v with
  | str a =>
    simp only [textOf, Bool.and_eq_true, decide_eq_true_eq] at h
    exact ⟨a.cps.toList, by show _ = V.str (st _); rw [st_eta], h.1, rfl⟩
  | _ => cases h
theorem inV_tx (n : List Nat) (l : List (List Nat)) : inV (tx n) (l.map tx) = decide (n ∈ l) := by
  unfold inV
  induction l with
  | nil => simp
  | cons d l ih =>
    rw [List.map_cons, List.any_cons, ih]
    simp only [eqV, List.mem_cons]
    have stj : st n = st d ↔ n = d := ⟨fun h => by simpa using congrArg (fun x : Str => x.cps.toList) h, fun h => by rw [h]⟩
    by_cases h : n = d
    · subst h; simp
    · have h2 : ¬ d = n := fun z => h z.symm
      simp [h, h2]
theorem flat_tx (l : List (List Nat)) : (l.map tx).all flatV = true := by
  rw [List.all_eq_true]
  intro v hv
  obtain ⟨c, _, rfl⟩ := List.mem_map.mp hv
  rfl
theorem le_big {n : Nat} (h : n ≤ 1000000) : n ≤ sizeLine := Nat.le_trans h (by decide)
theorem spanF_le : ∀ (l : List Fld) (n : List Nat) (a x y : Nat), spanF l n a = some (x, y) → x ≤ y
  | [], _, _, _, _, h => by cases h
  | (f, z) :: l, n, a, x, y, h => by
    rw [spanF] at h
    split at h
    · cases h; omega
    · exact spanF_le l n _ x y h
def sp_field_row (K : PySem.W.Frag) : Sp := fun vs H Q E => match vs with
  | [.ref p, .ref q] => ∃ ls ps, Lay H p ls ∧ Parts H q ps ∧ (ls.map (·.1)).Nodup ∧ ls.length ≤ 100 ∧ widthL ls ≤ 1000 ∧ ps.length ≤ 100 ∧ resX K H Q E (resF ls ps [])
  | _ => False
theorem ok_field_row (T : Top K mg) : CalleeX P w K mg base 3 "field_row" ["layout", "parts"] (sp_field_row K) := by
  refine T.f_field_row.calX sc_field_row (by intro vs H Q E h; unfold sp_field_row at h; split at h <;> first | rfl | exact h.elim) (fun _ _ _ _ _ _ us hl => match us, hl with | [_, _], _ => rfl) (fun f cdv A outer s H vs Q E hr h => ?_)
  unfold sp_field_row at h
  split at h
  case h_2 => exact h.elim
  refine ⟨_, (pss_cons (ps_set (i := 2) sc_field_row.nd rfl (by first | exact Or.inl rfl | exact Or.inr rfl) (pe_op op_mulK (qs [45]) (pe_fn (ok_layout_width T) (hr.mono (by first | decide | omega)) rfl (pa_cons (qv 0) pa_nil))))
      (pss_cons (ps_set (i := 3) sc_field_row.nd rfl (by first | exact Or.inl rfl | exact Or.inr rfl) (pe_lst pa_nil))
      (pss_cons (qs_for PassesOwn.leaving rfl (iterE K rfl (qv 1)) (tupE K rfl rfl (n := 2) (pgs_cons (pg_name (i := 4) sc_field_row.nd rfl (by first | exact Or.inl rfl | exact Or.inr rfl)) (pgs_cons (pg_name (i := 5) sc_field_row.nd rfl (by first | exact Or.inl rfl | exact Or.inr rfl)) pgs_nil))) (pss_cons (ps_set (i := 6) sc_field_row.nd rfl (by first | exact Or.inl rfl | exact Or.inr rfl) (pe_fnX (ok_field_span T) (hr.mono (by first | decide | omega)) passes_fn rfl (pa_cons (qv 0) (pa_cons (qv 4) pa_nil))))
      (pss_cons (ps_if (qt_cmp (inE K rfl) (qv 4) (qv 3)) (pss_one (ps_raise rfl raises_fn rfl T.x_Twice.1 T.x_Twice.2 (pa_cons (pe_fs (pj_cons (qs [102, 105, 101, 108, 100, 32]) (pj_cons (pe_fmtR (qv 4)) (pj_cons (qs [32, 105, 115, 32, 116, 111, 108, 100, 32, 116, 119, 105, 99, 101]) pj_nil)))) pa_nil))) pss_nil)
      (pss_cons (ps_if (pt_not (qt_val (pe_fn (ok_is_row T) (hr.mono (by first | decide | omega)) rfl (pa_cons (qv 5) (pa_cons (pe_op op_subK (pe_ix (ixE K rfl) (qv 6) pe_int (fun _ _ => rfl)) (pe_ix (ixE K rfl) (qv 6) pe_int (fun _ _ => rfl))) pa_nil))))) (pss_one (ps_raise rfl raises_fn rfl T.x_Misfit.1 T.x_Misfit.2 (pa_cons (pe_fs (pj_cons (qs [110, 111, 32, 114, 111, 119, 32, 111, 102, 32, 102, 105, 101, 108, 100, 32]) (pj_cons (pe_fmtR (qv 4)) (pj_cons (qs [58, 32]) (pj_cons (pe_fmtA hr.gd hr.units0 (qv 5)) pj_nil))))) pa_nil))) pss_nil)
      (pss_cons (ps_expr (qe_append (qv 3) (qv 4)))
      (pss_one (ps_set (i := 2) sc_field_row.nd rfl (by first | exact Or.inl rfl | exact Or.inr rfl) (pe_op op_addK (pe_op op_addK (pe_slice (slE K rfl) (qv 2) po_none (qo_some (pe_ix (ixE K rfl) (qv 6) pe_int (fun _ _ => rfl)))) (qv 5)) (pe_slice (slE K rfl) (qv 2) (qo_some (pe_ix (ixE K rfl) (qv 6) pe_int (fun _ _ => rfl))) po_none)))))))))
      (pss_one (ps_ret (qv 2)))))), ?_⟩
  rename_i p q
  obtain ⟨ls, ps, hL, hP, nd, hl, hw, hp, hq⟩ := h
  walk_at "rd"
  refine ⟨ls, hL, by omega, fun H1 s1 => ?_⟩
  walk_at "rd"
  refine ⟨by omega, by omega, by decide, fun g hg => ?_⟩
  obtain ⟨⟨vs, e0, pr⟩, hok⟩ := hP
  have hvl := pr.length
  have s0 : Same H (upd H1 g (.lst [])) := s1.trans (same_new hg _)
  have hgH : H g = none := s1.free hg
  refine .inl ⟨⟨_, SqL.of (s0 _ _ e0)⟩, ?_⟩
  rw [Int.toNat_natCast]
  refine loop_list (xs := vs) (fun i σ H' => ∃ (seen : List (List Nat × List Nat)) (u4 u5 u6 : Option V), σ = [some (.ref p), some (.ref q), some (.str (st (rowOf ls seen))), some (.ref g), u4, u5, u6] ∧ Same H H' ∧ H' g = some (.lst ((seen.map (·.1)).map tx)) ∧ Fits ls seen ∧ seen.length = i ∧ resF ls (ps.drop i) seen = resF ls ps [])
    ⟨[], none, none, none, by rw [row_bare], s0, upd_same, fun x _ s z => (by cases z), rfl, rfl⟩ (fun i σ H' _ ⟨_, _, _, _, _, z, _⟩ => SqL.of (z _ _ e0)) ?_ ?_
  · rintro i x σ H2 hx ⟨seen, u4, u5, u6, rfl, s2, e2, hf, hsl, hre⟩
    have hi : i < vs.length := (List.getElem?_eq_some_iff.mp hx).1
    have hil : i < ps.length := by omega
    obtain ⟨y, hy, t, ey, et⟩ := paired_at pr (List.getElem?_eq_getElem hil)
    obtain rfl : x = .ref t := by rw [hy] at hx; rw [← Option.some.inj hx, ey]
    obtain ⟨hth, hn8, hnc⟩ := hok ps[i] (List.getElem_mem hil)
    rw [List.drop_eq_getElem_cons hil] at hre
    generalize ps[i] = nv at et hth hn8 hnc hre
    obtain ⟨n, v⟩ := nv
    dsimp only at et hth hn8 hnc
    rw [resF] at hre
    refine ⟨t, [_, _], rfl, SqT.of (s2 _ _ et), rfl, _, [_], rfl, _, [], rfl, rfl, ?_⟩
    walk_at "rd"
    have hnc' : ∀ c ∈ (st n).cps.toList, c < 16 ^ 8 := fun c hc => by
      rw [st_cps] at hc
      have := hnc c hc
      omega
    refine ⟨ls, hL.same s2, hnc', by rw [st_cps]; omega, fun a b eb t1 H3 ht1 s3 e3 => ?_, fun en H3 s3 => ?_⟩
    · rw [st_cps] at eb
      rw [eb] at hre
      dsimp only at hre
      have s23 := s2.trans s3
      walk_at "rd"
      refine ⟨_, .inl (SqL.of (s3 _ _ e2)), rfl, flat_tx _, ?_⟩
      rw [inV_tx]
      walk_at "rd"
      refine ite2 (fun gi => ?_) fun gi => ?_
      · rw [if_pos gi] at hre
        rw [← hre] at hq
        have hz : (st n).length = n.length := st_len n
        have a1 : (st [102, 105, 101, 108, 100, 32]).length = 6 := rfl; have a2 : (st [32, 105, 115, 32, 116, 111, 108, 100, 32, 116, 119, 105, 99, 101]).length = 14 := rfl
        exact ⟨le_big (by omega), fun c hc => hnc' c (by rw [st_cps]; exact hc), by omega, fun z hzz => ⟨le_big (by omega), le_big (by omega), fun _ => ⟨by decide, hq H3 s23⟩⟩⟩
      · rw [if_neg gi] at hre
        have hab := spanF_le ls n 0 a b eb
        refine ⟨_, _, .inr (SqT.of e3), rfl, _, _, .inr (SqT.of e3), rfl, ?_⟩
        walk_at "rd"
        have hth3 := hth.same s23
        refine ⟨hth3.known, ?_⟩
        walk_at "rd"
        refine ite2 (fun gm => ?_) fun gm => ?_
        · rw [if_neg (by rw [gm]; decide)] at hre
          rw [← hre] at hq
          have hz : (st n).length = n.length := st_len n
          have a1 : (st [110, 111, 32, 114, 111, 119, 32, 111, 102, 32, 102, 105, 101, 108, 100, 32]).length = 16 := rfl; have a2 : (st [58, 32]).length = 2 := rfl
          refine ⟨le_big (by omega), fun c hc => hnc' c (by rw [st_cps]; exact hc), by omega, fun z hzz => ⟨le_big (by omega), le_big (by omega), ?_⟩⟩
          have fin : ∀ z1 : Str, z1.length ≤ 200000 → 0 + (st [110, 111, 32, 114, 111, 119, 32, 111, 102, 32, 102, 105, 101, 108, 100, 32]).length + z.length + (st [58, 32]).length + z1.length ≤ sizeLine ∧ ∀ _ : Str, 1 ≤ sizeLine ∧ E (.ref (xA K "Misfit")) none H3 := fun z1 h1 => ⟨le_big (by omega), fun _ => ⟨by decide, hq H3 s23⟩⟩
          cases v with
          | non => exact fin
          | bl b => exact fin
          | int i => exact ⟨hth3, fin⟩
          | str y => exact ⟨hth3.2, by have := hth3.1; show y.cps.size ≤ 10000; rw [← Array.length_toList]; omega, fin⟩
          | ref r => obtain ⟨ls', h1, h2⟩ := hth3; exact ⟨ls', h1, h2, fin⟩
          | _ => exact hth3.elim
        · have gt : textOf v ((b : Int) - a) [48, 49, 45] = true := by simpa using gm
          rw [if_pos gt] at hre
          obtain ⟨x, rfl, hxl, hxt⟩ := text_len gt
          rw [hxt] at hre
          have hnn : look seen n = none := look_none.mpr gi
          obtain ⟨hrp, hfp⟩ := row_put (s := x) nd hf eb (by omega) hnn
          have hrl := row_of_len hf
          have hbw : b ≤ widthL ls := by
            obtain ⟨l1, z, l2, rfl, _, h2, h3⟩ := span_split ls n 0 a b eb
            simp only [widthL, List.map_append, List.map_cons, List.sum_append, List.sum_cons] at *
            omega
          refine ⟨⟨_, s3 _ _ e2⟩, _, s3 _ _ e2, sizeBig (by simp only [List.length_map]; omega), ?_⟩
          have ne : t1 ≠ g := ne_of e3 (s3 _ _ e2) (by intro z; cases z)
          have e3' : upd H3 g (.lst ((seen.map (·.1)).map tx ++ [tx n])) t1 = some (.tup [V.int (a : Nat), V.int (b : Nat)]) := by rw [upd_ne ne]; exact e3
          have sg : Same H (upd H3 g (.lst ((seen.map (·.1)).map tx ++ [tx n]))) := same_upd s23 hgH
          refine ⟨_, _, .inr (SqT.of e3'), rfl, ?_⟩
          walk_at "rd"
          refine ⟨by omega, by omega, by omega, ?_⟩
          rw [Int.toNat_natCast]
          refine ⟨?_, _, _, .inr (SqT.of e3'), rfl, ?_⟩
          · rw [List.length_take]; omega
          walk_at "rd"
          refine ⟨by omega, by omega, by omega, ?_, ?_⟩
          · rw [List.length_append, List.length_take, List.length_drop]; omega
          rw [Int.toNat_natCast]
          refine ⟨seen ++ [(n, x)], some (tx n), some (tx x), some (.ref t1), by rw [hrp], sg, ?_, hfp, by rw [List.length_append, hsl]; rfl, hre⟩
          rw [upd_same, List.map_append, List.map_append]
          rfl
    · rw [st_cps] at en
      rw [en] at hre
      rw [← hre] at hq
      exact hq H3 (s2.trans s3)
  · rintro σ H2 ⟨seen, u4, u5, u6, rfl, s2, e2, hf, hsl, hre⟩
    rw [← hvl, List.drop_length, resF] at hre
    rw [← hre] at hq
    walk_at "rd"
    exact hq H2 s2
def misfitT : List Nat := [109, 105, 115, 102, 105, 116]
def twiceT : List Nat := [116, 119, 105, 99, 101]
def fieldT : List Nat := [102, 105, 101, 108, 100]
def noneT : List Nat := [110, 111, 110, 101]
def wordsL (b0 b1 b2 : Bool) : List (List Nat) := (if b0 then [misfitT] else []) ++ (if b1 then [twiceT] else []) ++ (if b2 then [fieldT] else [])
def sp__law_word (K : PySem.W.Frag) : Sp := fun vs H Q _ => match vs with
  | [.ref ea] => ∃ (c : Str) (b0 b1 b2 : Bool), H ea = some (XO (xA K c) ea) ∧ XCl K (xA K c) ∧ Xm K c "Misfit" b0 ∧ Xm K c "Twice" b1 ∧ Xm K c "NoField" b2 ∧ Xm K c "NoRule" false ∧ Xm K c "NoWay" false ∧
      Xm K c "NoDoor" false ∧ Xm K c "NoHouse" false ∧ Xm K c "NoLine" false ∧ Xm K c "BadWord" false ∧ Xm K c "Unlike" false ∧ Xv K c ∧ (wordsL b0 b1 b2).length ≤ 1 ∧ ∀ H', Same H H' → Q (tx (wordsL b0 b1 b2).flatten) H'
  | _ => False
theorem ok__law_word (T : Top K mg) : CalleeH P w K mg base 1 "_law_word" ["_law_e"] (sp__law_word K) := by
  refine T.f__law_word.calH sc__law_word (by intro vs H Q E h; unfold sp__law_word at h; split at h <;> first | rfl | exact h.elim) (fun _ _ _ _ _ _ us hl => match us, hl with | [_], _ => rfl) (fun f cdv A outer s H vs Q E hr h => ?_)
  unfold sp__law_word at h
  split at h
  case h_2 => exact h.elim
  refine ⟨_, (pss_cons (ps_set (i := 1) sc__law_word.nd rfl (by first | exact Or.inl rfl | exact Or.inr rfl) (pe_lst pa_nil))
      (pss_join (ps_if (qt_val (qe_isiX K rfl rfl rfl T.b_isinstance (qv 0) (qe_cls T.x_Misfit rfl))) (pss_one (ps_expr (qe_append (qv 1) (qs [109, 105, 115, 102, 105, 116])))) pss_nil)
      (pss_join (ps_if (qt_val (qe_isiX K rfl rfl rfl T.b_isinstance (qv 0) (qe_cls T.x_Twice rfl))) (pss_one (ps_expr (qe_append (qv 1) (qs [116, 119, 105, 99, 101])))) pss_nil)
      (pss_join (ps_if (qt_val (qe_isiX K rfl rfl rfl T.b_isinstance (qv 0) (qe_cls T.x_NoField rfl))) (pss_one (ps_expr (qe_append (qv 1) (qs [102, 105, 101, 108, 100])))) pss_nil)
      (pss_join (ps_if (qt_val (qe_isiX K rfl rfl rfl T.b_isinstance (qv 0) (qe_cls T.x_NoRule rfl))) (pss_one (ps_expr (qe_append (qv 1) (qs [114, 117, 108, 101])))) pss_nil)
      (pss_join (ps_if (qt_val (qe_isiX K rfl rfl rfl T.b_isinstance (qv 0) (qe_cls T.x_NoWay rfl))) (pss_one (ps_expr (qe_append (qv 1) (qs [119, 97, 121])))) pss_nil)
      (pss_join (ps_if (PW.pt (pw_or (qt_val (qe_isiXT (ds := [.ref (xA K "NoDoor"), .ref (xA K "NoHouse")]) K rfl rfl (Nat.le_of_lt (sizeBig (by simp))) rfl T.b_isinstance (qv 0) (pac_cons (qe_cls T.x_NoDoor rfl) (pac_cons (qe_cls T.x_NoHouse rfl) pac_nil)))) (pw_or (qt_val (qe_isiXT (ds := [.ref (xA K "NoLine"), .ref (xA K "BadWord")]) K rfl rfl (Nat.le_of_lt (sizeBig (by simp))) rfl T.b_isinstance (qv 0) (pac_cons (qe_cls T.x_NoLine rfl) (pac_cons (qe_cls T.x_BadWord rfl) pac_nil)))) (pw_or1 (qt_val (qe_isiX K rfl rfl rfl T.b_isinstance (qv 0) (qe_cls T.x_Unlike rfl))))))) (pss_one (ps_expr (qe_append (qv 1) (qs [111, 116, 104, 101, 114])))) pss_nil)
      (pss_join (ps_if (pt_not (qt_val (qe_isiX K rfl rfl rfl T.b_isinstance (qv 0) (qe_ty rfl T.b_ValueError bb_ValueError)))) (pss_one (ps_expr (qe_append (qv 1) (qs [98, 97, 115, 101])))) pss_nil)
      (pss_one (ps_ret (qe_joinW K rfl (qv 1)))))))))))), ?_⟩
  rename_i ea
  obtain ⟨c, b0, b1, b2, e0, xc, m0, m1, m2, m3, m4, m5, m6, m7, m8, m9, v, hw, q⟩ := h
  walk_at "rd"
  refine ⟨by decide, fun p hp => ?_⟩
  have s0 := same_new hp (.lst [])
  have g0 : upd H p (.lst []) p = some (.lst (([] : List (List Nat)).map tx)) := upd_same
  generalize upd H p (.lst []) = H0 at s0 g0 ⊢
  refine ⟨fun σ' H' => σ' = [some (.ref ea), some (.ref p)] ∧ Same H H' ∧ H' p = some (.lst ((([] : List (List Nat)) ++ if b0 then [misfitT] else []).map tx)), ⟨_, b0, s0 _ _ e0, xc, Xn.kit m0 T.x_Misfit, ite2 (fun g => ⟨⟨_, g0⟩, _, g0, sizeBig (by simp), rfl, same_upd s0 hp, by rw [upd_same, if_pos g]; rfl⟩) fun g => ⟨rfl, s0, by rw [if_neg g]; exact g0⟩⟩, ?_⟩
  rintro σ' H1 ⟨rfl, s1, e1⟩
  walk_at "rd"
  have l1 : (([] : List (List Nat)) ++ if b0 then [misfitT] else []).length ≤ 1 := by split <;> simp
  generalize hw1 : ([] : List (List Nat)) ++ (if b0 = true then [misfitT] else []) = w1 at e1 l1 ⊢
  refine ⟨fun σ' H' => σ' = [some (.ref ea), some (.ref p)] ∧ Same H H' ∧ H' p = some (.lst ((w1 ++ if b1 then [twiceT] else []).map tx)), ⟨_, b1, s1 _ _ e0, xc, Xn.kit m1 T.x_Twice, ite2 (fun g => ⟨⟨_, e1⟩, _, e1, sizeBig (by rw [List.length_map]; omega), rfl, same_upd s1 hp, by rw [upd_same, if_pos g, List.map_append]; rfl⟩) fun g => ⟨rfl, s1, by rw [if_neg g, List.append_nil]; exact e1⟩⟩, ?_⟩
  rintro σ' H2 ⟨rfl, s2, e2⟩
  walk_at "rd"
  have l2 : (w1 ++ if b1 then [twiceT] else []).length ≤ 2 := by rw [List.length_append]; split <;> simp <;> omega
  generalize hw2 : w1 ++ (if b1 = true then [twiceT] else []) = w2 at e2 l2 ⊢
  refine ⟨fun σ' H' => σ' = [some (.ref ea), some (.ref p)] ∧ Same H H' ∧ H' p = some (.lst ((w2 ++ if b2 then [fieldT] else []).map tx)), ⟨_, b2, s2 _ _ e0, xc, Xn.kit m2 T.x_NoField, ite2 (fun g => ⟨⟨_, e2⟩, _, e2, sizeBig (by rw [List.length_map]; omega), rfl, same_upd s2 hp, by rw [upd_same, if_pos g, List.map_append]; rfl⟩) fun g => ⟨rfl, s2, by rw [if_neg g, List.append_nil]; exact e2⟩⟩, ?_⟩
  rintro σ' H3 ⟨rfl, s3, e3⟩
  walk_at "rd"
  have hww : w2 ++ (if b2 = true then [fieldT] else []) = wordsL b0 b1 b2 := by rw [← hw2, ← hw1]; rfl
  rw [hww] at e3
  refine ⟨fun σ' H' => σ' = [some (.ref ea), some (.ref p)] ∧ Same H H' ∧ H' p = some (.lst ((wordsL b0 b1 b2).map tx)), ⟨_, false, s3 _ _ e0, xc, Xn.kit m3 T.x_NoRule, ?_⟩, ?_⟩
  · exact ⟨rfl, s3, e3⟩
  clear s3 e3
  rintro σ' H3 ⟨rfl, s3, e3⟩
  walk_at "rd"
  refine ⟨fun σ' H' => σ' = [some (.ref ea), some (.ref p)] ∧ Same H H' ∧ H' p = some (.lst ((wordsL b0 b1 b2).map tx)), ⟨_, false, s3 _ _ e0, xc, Xn.kit m4 T.x_NoWay, ?_⟩, ?_⟩
  · exact ⟨rfl, s3, e3⟩
  clear s3 e3
  rintro σ' H3 ⟨rfl, s3, e3⟩
  walk_at "rd"
  refine ⟨fun σ' H' => σ' = [some (.ref ea), some (.ref p)] ∧ Same H H' ∧ H' p = some (.lst ((wordsL b0 b1 b2).map tx)), ⟨_, false, s3 _ _ e0, xc, by rw [kitAny_no (Xn.kit m5 T.x_NoDoor), kitAny_no (Xn.kit m6 T.x_NoHouse), kitAny_nil], fun p1 hp1 => ?_⟩, ?_⟩
  · walk_at "rd"
    have s4 := s3.trans (same_new hp1 (.tup [V.ref (xA K "NoDoor"), V.ref (xA K "NoHouse")]))
    have e4 := same_new hp1 (.tup [V.ref (xA K "NoDoor"), V.ref (xA K "NoHouse")]) _ _ e3
    refine ⟨_, false, s4 _ _ e0, xc, by rw [kitAny_no (Xn.kit m7 T.x_NoLine), kitAny_no (Xn.kit m8 T.x_BadWord), kitAny_nil], fun p2 hp2 => ?_⟩
    walk_at "rd"
    have s5 := s4.trans (same_new hp2 (.tup [V.ref (xA K "NoLine"), V.ref (xA K "BadWord")]))
    refine ⟨_, false, s5 _ _ e0, xc, Xn.kit m9 T.x_Unlike, ?_⟩
    walk_at "rd"
    exact ⟨s5, same_new hp2 _ _ _ e4⟩
  clear s3 e3
  rintro σ' H3 ⟨rfl, s3, e3⟩
  walk_at "rd"
  refine ⟨fun σ' H' => σ' = [some (.ref ea), some (.ref p)] ∧ Same H H' ∧ H' p = some (.lst ((wordsL b0 b1 b2).map tx)), ⟨_, true, s3 _ _ e0, xc, Xv.kit v, ?_⟩, ?_⟩
  · exact ⟨rfl, s3, e3⟩
  clear s3 e3
  rintro σ' H3 ⟨rfl, s3, e3⟩
  walk_at "rd"
  refine ⟨wordsL b0 b1 b2, SqL.of e3, hw, fun x hx => ?_, q H3 s3⟩
  unfold wordsL at hx
  simp only [List.mem_append, List.mem_ite_nil_right, List.mem_singleton] at hx
  rcases hx with (⟨_, rfl⟩ | ⟨_, rfl⟩) | ⟨_, rfl⟩ <;> decide
def rowB (x : List Nat) (w : Int) : Bool := decide ((x.length : Int) = w) && x.all fun c => decide (c ∈ [48, 49, 45])
theorem in_signs (c : Nat) (l : List Nat) : inV (V.str (st [c])) (l.map fun c => V.str (st [c])) = decide (c ∈ l) := by
  unfold inV
  induction l with
  | nil => simp
  | cons d l ih =>
    rw [List.map_cons, List.any_cons, ih]
    simp only [eqV, List.mem_cons]
    by_cases h : c = d
    · subst h; simp
    · have h2 : ¬ d = c := fun z => h z.symm
      simp [h, h2]
theorem text_row (x : List Nat) (n : Int) : textOf (.str (st x)) n [48, 49, 45] = rowB x n := rfl
def sp__law_is_row : Sp := fun vs H Q _ => match vs with
  | [v, .int w] => Known H v ∧ ∀ H', Same H H' → Q (.bl (textOf v w [48, 49, 45])) H'
  | _ => False
theorem ok__law_is_row (T : Top K mg) : Callee P w K mg base 1 "_law_is_row" ["_law_found", "_law_width"] sp__law_is_row := by
  refine T.f__law_is_row.cal sc__law_is_row (by intro vs H Q E h; unfold sp__law_is_row at h; split at h <;> first | rfl | exact h.elim) (fun _ _ _ _ _ _ us hl => match us, hl with | [_, _], _ => rfl) (fun f cdv A outer s H vs Q E hr h => ?_)
  unfold sp__law_is_row at h
  split at h
  case h_2 => exact h.elim
  refine ⟨_, (pss_cons (ps_if (PW.pt (pw_or (pt_not (qt_val (qe_isinst .str rfl T.b_isinstance (qv 0) rfl T.b_str bb_str))) (pw_or1 (qt_cmp op_neK (pe_callB (lenE K rfl) rfl T.b_len bb_len (pa_cons (qv 0) pa_nil)) (qv 1))))) (pss_one (ps_ret pe_bl)) pss_nil)
      (pss_one (ps_ret (qe_cmp (eqNilE K rfl (hu1 hr)) (qe_comp (nt := 1) (fi := []) (N' := ["_law_sign"]) rfl (cscope rfl (by decide +kernel)) (cnames (N := ["_law_found", "_law_width"]) (sc := defScope s__law_is_row) rfl rfl (by decide +kernel)) (gk_name (by decide)) (iterE K rfl (qv 0)) (fun _ _ _ _ _ => (pg_name (i := 0) (by show (["_law_sign"] : List Str).Nodup; decide +kernel) rfl (by first | exact Or.inl rfl | exact Or.inr rfl))) (fun _ _ _ _ _ => (pif_one (qt_cmp (notinE K rfl) (qv 0) (pe_tup (pa_cons (qs [48]) (pa_cons (qs [49]) (pa_cons (qs [45]) pa_nil))))))) (fun _ _ _ _ _ => (qv 0))) (pe_lst pa_nil))))), ?_⟩
  rename_i v n
  obtain ⟨hk, q⟩ := h
  cases v with
  | str a =>
    obtain ⟨x, rfl⟩ : ∃ x, a = st x := ⟨_, (st_eta a).symm⟩
    have h1 : x.length ≤ 1000 := hk
    rw [text_row] at q
    walk_at "rd"
    refine ⟨by omega, ite2 (fun g1 => fun D hD => ?_) fun g1 => ?_⟩
    · refine comp_str (h := fun c => if c ∈ [48, 49, 45] then [] else [V.str (st [c])]) hD (by omega) (fun c => by split <;> simp) ?_ ?_
      · intro c H1 out non hc s1 ho hn
        walk_at "rd"
        refine ⟨by decide, fun p hp => ⟨_, .inr (SqT.of upd_same), rfl, rfl, ?_⟩⟩
        have e : inV (V.str (st [c])) [V.str (st [48]), V.str (st [49]), V.str (st [45])] = decide (c ∈ [48, 49, 45]) := in_signs c [48, 49, 45]
        rw [e]
        walk_at "rd"
        exact ite2 (fun g2 => hn _ (if_pos g2) (same_new hp _)) fun g2 => ho _ _ (if_neg g2) (same_new hp _)
      · intro H1 s1 e1
        walk_at "rd"
        refine ⟨by decide, fun z hz => ⟨_, SqL.of (same_new hz _ _ _ e1), SqL.of upd_same, ?_⟩⟩
        have e : decide (x.flatMap (fun c => if c ∈ [48, 49, 45] then [] else [V.str (st [c])]) = []) = rowB x n := by
          unfold rowB
          rw [decide_eq_true g1, Bool.true_and, Bool.eq_iff_iff, decide_eq_true_iff, List.flatMap_eq_nil_iff, List.all_eq_true]
          constructor
          · intro w c hc
            have := w c hc
            by_cases h : c ∈ [48, 49, 45]
            · exact decide_eq_true h
            · rw [if_neg h] at this
              cases this
          · intro w c hc
            exact if_pos (of_decide_eq_true (w c hc))
        rw [e]
        exact q _ (s1.trans (same_new hz _))
    · have e : rowB x n = false := by
        unfold rowB
        rw [decide_eq_false g1]
        rfl
      have := q H (Same.refl _)
      rw [e] at this
      exact this
  | ref p =>
    walk_at "rd"
    rcases hk with hk | hk
    · exact .inl ⟨hk, q _ (Same.refl _)⟩
    · exact .inr ⟨hk, q _ (Same.refl _)⟩
  | non => walk_at "rd"; exact q _ (Same.refl _)
  | bl b => walk_at "rd"; exact q _ (Same.refl _)
  | int i => walk_at "rd"; exact q _ (Same.refl _)
  | _ => exact hk.elim
def dueV : Res → List V
  | .row r => [tx noneT, tx r]
  | .no => [tx fieldT, .non]
  | .twice => [tx twiceT, .non]
  | .misfit => [tx misfitT, .non]
def seenK (seen : List (List Nat × List Nat)) : List (Key × V) := seen.map fun x => (Sum.inr (st x.1), tx x.2)
theorem seen_val (seen : List (List Nat × List Nat)) (n : List Nat) : valV (seenK seen) (Sum.inr (st n)) = (look seen n).map tx := by
  unfold valV look seenK
  induction seen with
  | nil => rfl
  | cons x r ih =>
    rw [List.map_cons, List.find?_cons, List.find?_cons]
    by_cases h : x.1 = n
    · simp [h]
    · have h1 : ¬ (Sum.inr (st x.1) : Key) = Sum.inr (st n) := fun e => h (st_inj.mp (Sum.inr.inj e))
      rw [decide_eq_false h1, decide_eq_false h]
      exact ih
theorem seen_put {seen : List (List Nat × List Nat)} {n s : List Nat} (h : look seen n = none) : putK (seenK seen) (Sum.inr (st n)) (tx s) = seenK (seen ++ [(n, s)]) := by
  unfold putK
  have : ((seenK seen).any fun kv => decide (kv.1 = Sum.inr (st n))) = false := by
    rw [List.any_eq_false]
    intro kv hkv
    obtain ⟨x, hx, rfl⟩ := List.mem_map.mp hkv
    have hn := look_none.mp h
    simp only [decide_eq_true_eq]
    intro e
    exact hn (List.mem_map.mpr ⟨x, hx, st_inj.mp (Sum.inr.inj e)⟩)
  rw [this, if_neg (by decide)]
  unfold seenK
  rw [List.map_append]
  rfl
theorem span_mem {ls : List Fld} {n : List Nat} (nd : (ls.map (·.1)).Nodup) (h : n ∈ ls.map (·.1)) : ∃ (k : Nat) (z a : Nat), ls[k]? = some (n, z) ∧ spanF ls n 0 = some (a, a + z) := by
  obtain ⟨x, hx, rfl⟩ := List.mem_map.mp h
  obtain ⟨k, hk, rfl⟩ := List.getElem_of_mem hx
  exact ⟨k, ls[k].2, _, List.getElem?_eq_getElem hk, by rw [spanF_at ls ls[k].1 0 k ls[k].2 nd (List.getElem?_eq_getElem hk)]⟩
theorem row_snoc (ls : List Fld) (seen : List (List Nat × List Nat)) (i : Nat) (h : i < ls.length) : rowOf (ls.take (i + 1)) seen = rowOf (ls.take i) seen ++ valOf seen ls[i] := by
  unfold rowOf
  rw [List.take_add_one, List.getElem?_eq_getElem h, Option.toList_some, List.flatMap_append]
  simp
def sp__law_due (K : PySem.W.Frag) : Sp := fun vs H Q _ => match vs with
  | [.ref p, .ref q] => ∃ ls ps, Lay H p ls ∧ Parts H q ps ∧ (ls.map (·.1)).Nodup ∧ ls.length ≤ 100 ∧ widthL ls ≤ 1000 ∧ ps.length ≤ 100 ∧ ∀ t H', H t = none → Same H H' → H' t = some (.tup (dueV (resF ls ps []))) → Q (.ref t) H'
  | _ => False
theorem ok__law_due (T : Top K mg) : Callee P w K mg base 2 "_law_due" ["_law_layout", "_law_parts_here"] (sp__law_due K) := by
  refine T.f__law_due.cal sc__law_due (by intro vs H Q E h; unfold sp__law_due at h; split at h <;> first | rfl | exact h.elim) (fun _ _ _ _ _ _ us hl => match us, hl with | [_, _], _ => rfl) (fun f cdv A outer s H vs Q E hr h => ?_)
  unfold sp__law_due at h
  split at h
  case h_2 => exact h.elim
  refine ⟨_, (pss_cons (ps_setC (i := 2) (nt := 2) (fi := []) (N' := ["_law_name", "_law_size"]) sc__law_due.nd rfl (by first | exact Or.inl rfl | exact Or.inr rfl) rfl (cscope rfl (by decide +kernel)) (cnames (N := ["_law_layout", "_law_parts_here", "_law_known", "_law_seen", "_law_name", "_law_signs_here", "_law_row_here", "_law_size"]) (sc := defScope s__law_due) rfl rfl (by decide +kernel)) (gk_tup2 (by decide) (by decide)) (iterE K rfl (qv 0)) (fun _ _ _ _ _ => (tupE K rfl rfl (n := 2) (pgs_cons (pg_name (i := 0) (by show (["_law_name", "_law_size"] : List Str).Nodup; decide +kernel) rfl (by first | exact Or.inl rfl | exact Or.inr rfl)) (pgs_cons (pg_name (i := 1) (by show (["_law_name", "_law_size"] : List Str).Nodup; decide +kernel) rfl (by first | exact Or.inl rfl | exact Or.inr rfl)) pgs_nil)))) (fun _ _ _ _ _ => pif_nil) (fun _ _ _ _ _ => (qv 0)))
      (pss_cons (ps_set (i := 3) sc__law_due.nd rfl (by first | exact Or.inl rfl | exact Or.inr rfl) pe_dnewK)
      (pss_cons (qs_for PassesOwn.never rfl (iterE K rfl (qv 1)) (tupE K rfl rfl (n := 2) (pgs_cons (pg_name (i := 4) sc__law_due.nd rfl (by first | exact Or.inl rfl | exact Or.inr rfl)) (pgs_cons (pg_name (i := 5) sc__law_due.nd rfl (by first | exact Or.inl rfl | exact Or.inr rfl)) pgs_nil))) (pss_cons (ps_if (qt_cmp (notinE K rfl) (qv 4) (qv 2)) (pss_one (ps_ret (pe_tup (pa_cons (qs [102, 105, 101, 108, 100]) (pa_cons pe_non pa_nil))))) pss_nil)
      (pss_cons (ps_if (qt_din (hu_of hr) (qv 4) (qv 3)) (pss_one (ps_ret (pe_tup (pa_cons (qs [116, 119, 105, 99, 101]) (pa_cons pe_non pa_nil))))) pss_nil)
      (pss_cons (ps_if (pt_not (qt_val (pe_fn (ok__law_is_row T) (hr.mono (by first | decide | omega)) rfl (pa_cons (qv 5) (pa_cons (pe_ix (ixE K rfl) (pe_ix (ixE K rfl) (qv 0) (qe_index (qv 2) (qv 4)) (fun _ _ => rfl)) pe_int (fun _ _ => rfl)) pa_nil))))) (pss_one (ps_ret (pe_tup (pa_cons (qs [109, 105, 115, 102, 105, 116]) (pa_cons pe_non pa_nil))))) pss_nil)
      (pss_one (qs_dput (hu_of hr) (qv 3) (qv 4) (qv 5)))))))
      (pss_cons (ps_set (i := 6) sc__law_due.nd rfl (by first | exact Or.inl rfl | exact Or.inr rfl) (qs []))
      (pss_cons (qs_for PassesOwn.never rfl (iterE K rfl (qv 0)) (tupE K rfl rfl (n := 2) (pgs_cons (pg_name (i := 4) sc__law_due.nd rfl (by first | exact Or.inl rfl | exact Or.inr rfl)) (pgs_cons (pg_name (i := 7) sc__law_due.nd rfl (by first | exact Or.inl rfl | exact Or.inr rfl)) pgs_nil))) (pss_one (ps_set (i := 6) sc__law_due.nd rfl (by first | exact Or.inl rfl | exact Or.inr rfl) (pe_op op_addK (qv 6) (qe_dget2 (hu_of hr) (qv 3) (qv 4) (pe_op op_mulK (qs [45]) (qv 7)) ⟨rfl, rfl, rfl, rfl⟩)))))
      (pss_one (ps_ret (pe_tup (pa_cons (qs [110, 111, 110, 101]) (pa_cons (qv 6) pa_nil)))))))))), ?_⟩
  rename_i p q
  obtain ⟨ls, ps, hL, hP, nd, hl, hw, hp, hq⟩ := h
  obtain ⟨lv, eL, prL⟩ := id hL
  have hll := prL.length
  obtain ⟨z1, z2⟩ := paired_zip prL
  walk_at "rd"
  refine .inl ⟨⟨_, SqL.of eL⟩, fun D hD => ?_⟩
  refine comp_list (item := fun x : Fld × V => x.2) (xs := ls.zip lv) (h := fun x => [tx x.1.1]) hD (by rw [z1]; exact SqL.of eL) (by rw [List.length_zip]; omega) (fun _ => by simp) ?_ ?_
  · intro x H1 out non hx s1 ho _
    obtain ⟨t, ex, et⟩ := z2 x hx
    rw [ex]
    refine ⟨t, [_, _], rfl, SqT.of (s1 _ _ et), rfl, _, [_], rfl, _, [], rfl, rfl, ?_⟩
    walk_at "rd"
    exact ho _ _ rfl (Same.refl _)
  intro H1 s1 e1
  rw [show (ls.zip lv).flatMap (fun x => [tx x.1.1]) = (ls.map (·.1)).map tx by
    rw [← zip_fst (l := ls) (m := lv) hll]
    simp only [List.map_map]
    rw [zip_fst hll]
    induction ls.zip lv with
    | nil => rfl
    | cons x r ih => rw [List.flatMap_cons, ih]; rfl] at e1
  have hL1 := hL.same s1
  obtain ⟨⟨vs, e0, pr⟩, hok⟩ := hP.same s1
  have hvl := pr.length
  intro g hg
  have s0 := same_new hg (.dK [])
  refine .inl ⟨⟨_, SqL.of (s0 _ _ e0)⟩, ?_⟩
  refine loop_list (xs := vs) (fun i σ H' => ∃ (seen : List (List Nat × List Nat)) (u4 u5 : Option V), σ = [some (.ref p), some (.ref q), some (.ref D), some (.ref g), u4, u5, none, none] ∧ Same H1 H' ∧ H' g = some (.dK (seenK seen)) ∧ Fits ls seen ∧ seen.length = i ∧ resF ls (ps.drop i) seen = resF ls ps [])
    ⟨[], none, none, rfl, s0, upd_same, fun x _ s z => (by cases z), rfl, rfl⟩ (fun i σ H' _ ⟨_, _, _, _, z, _⟩ => SqL.of (z _ _ e0)) ?_ ?_
  · rintro i x σ H2 hx ⟨seen, u4, u5, rfl, s2, e2, hf, hsl, hre⟩
    have hi : i < vs.length := (List.getElem?_eq_some_iff.mp hx).1
    have hil : i < ps.length := by omega
    obtain ⟨y, hy, t, ey, et⟩ := paired_at pr (List.getElem?_eq_getElem hil)
    obtain rfl : x = .ref t := by rw [hy] at hx; rw [← Option.some.inj hx, ey]
    obtain ⟨hth, hn8, hnc⟩ := hok ps[i] (List.getElem_mem hil)
    rw [List.drop_eq_getElem_cons hil] at hre
    generalize ps[i] = nv at et hth hn8 hnc hre
    obtain ⟨n, v⟩ := nv
    dsimp only at et hth hn8 hnc
    rw [resF] at hre
    refine ⟨t, [_, _], rfl, SqT.of (s2 _ _ et), rfl, _, [_], rfl, _, [], rfl, rfl, ?_⟩
    have out : ∀ (H3 : Hp) (r : Res), Same H1 H3 → r = resF ls ps [] → ∀ t2, H3 t2 = none → Q (.ref t2) (upd H3 t2 (.tup (dueV r))) := fun H3 r s3 er t2 ht2 =>
      hq t2 _ (s1.free (s3.free ht2)) (s1.trans (s3.trans (same_new ht2 _))) (by rw [upd_same, er])
    walk_at "rd"
    refine ⟨_, .inl (SqL.of (s2 _ _ e1)), rfl, flat_tx _, ?_⟩
    rw [inV_tx]
    walk_at "rd"
    refine ite2 (fun gn => ?_) fun gn => ?_
    · obtain ⟨k, z, a, hk, hsp⟩ := span_mem nd gn
      rw [hsp] at hre
      dsimp only at hre
      refine ⟨_, DGet.k (k := Sum.inr (st n)) e2, ?_⟩
      rw [seen_val]
      walk_at "rd"
      refine ite2 (fun gs => ?_) fun gs => ?_
      · have hin : n ∈ seen.map (·.1) := by
          apply Classical.byContradiction
          intro hno
          rw [look_none.mpr hno] at gs
          cases gs
        rw [if_pos hin] at hre
        exact ⟨by decide, out H2 .twice s2 hre⟩
      have hnn : look seen n = none := by
        cases e : look seen n with
        | none => rfl
        | some s => rw [e] at gs; exact absurd rfl gs
      rw [if_neg (look_none.mp hnn), show (((a + z : Nat) : Int) - (a : Nat)) = (z : Int) by omega] at hre
      have eD := s2 _ _ e1
      obtain ⟨lv2, eL2, prL2⟩ := hL1.same s2
      obtain ⟨y2, hy2, t2, ey2, et2⟩ := paired_at prL2 hk
      have hnk : (ls.map (·.1))[k]? = some n := by rw [List.getElem?_map, hk]; rfl
      refine ⟨⟨_, eD⟩, ls.map (·.1), k, eD, by rw [List.length_map]; omega, hnk, fun m hm hmn => ?_, _, _, .inl (SqL.of eL2), atI_nat hy2, ?_⟩
      · obtain ⟨hm1, hm2⟩ := List.getElem?_eq_some_iff.mp hmn
        obtain ⟨hk1, hk2⟩ := List.getElem?_eq_some_iff.mp hnk
        have := (List.getElem_inj nd).mp (hm2.trans hk2.symm)
        omega
      subst ey2
      walk_at "rd"
      refine ⟨_, _, .inr (SqT.of et2), rfl, ?_⟩
      have hth2 := hth.same s2
      refine ⟨hth2.known, fun H3 s3 => ?_⟩
      have s23 := s2.trans s3
      walk_at "rd"
      refine ite2 (fun gm => ?_) fun gm => ?_
      · rw [if_neg (by rw [gm]; decide)] at hre
        exact ⟨by decide, out H3 .misfit s23 hre⟩
      have gt : textOf v (z : Int) [48, 49, 45] = true := by simpa using gm
      rw [if_pos gt] at hre
      obtain ⟨x, rfl, hxl, hxt⟩ := text_len gt
      rw [hxt] at hre
      obtain ⟨_, hfp⟩ := row_put (s := x) nd hf hsp (by omega) hnn
      refine ⟨_, DPut.k (k := Sum.inr (st n)) (s3 _ _ e2) (sizeBig (by unfold seenK; rw [List.length_map]; omega)), seen ++ [(n, x)], some (tx n), some (tx x), rfl, same_upd s23 hg, ?_, hfp, by rw [List.length_append, hsl]; rfl, hre⟩
      rw [upd_same, seen_put hnn]
    · rw [spanF_none ls n 0 gn] at hre
      exact ⟨by decide, out H2 .no s2 hre⟩
  · rintro σ H2 ⟨seen, u4, u5, rfl, s2, e2, hf, hsl, hre⟩
    rw [← hvl, List.drop_length, resF] at hre
    walk_at "rd"
    obtain ⟨lv2, eL2, prL2⟩ := hL1.same s2
    have hl2 := prL2.length
    refine .inl ⟨⟨_, SqL.of eL2⟩, ?_⟩
    refine loop_list (xs := lv2) (fun i σ H' => ∃ (u4 u7 : Option V), σ = [some (.ref p), some (.ref q), some (.ref D), some (.ref g), u4, u5, some (tx (rowOf (ls.take i) seen)), u7] ∧ Same H2 H') ⟨_, _, rfl, Same.refl _⟩ (fun i σ H' _ ⟨_, _, _, z⟩ => SqL.of (z _ _ eL2)) ?_ ?_
    · rintro i x σ H3 hx ⟨u4, u7, rfl, s3⟩
      have hi : i < lv2.length := (List.getElem?_eq_some_iff.mp hx).1
      have hil : i < ls.length := by omega
      obtain ⟨y, hy, t, ey, et⟩ := paired_at prL2 (List.getElem?_eq_getElem hil)
      obtain rfl : x = .ref t := by rw [hy] at hx; rw [← Option.some.inj hx, ey]
      have hfi : Fits (ls.take i) seen := fun x hx => hf x (List.mem_of_mem_take hx)
      have hri := row_of_len hfi
      have hv := val_len (hf ls[i] (List.getElem_mem hil))
      have hwi : widthL (ls.take i) + ls[i].2 ≤ widthL ls := by
        have := sum_take_le (ls.map (·.2)) i ls[i].2 (by rw [List.getElem?_map, List.getElem?_eq_getElem hil]; rfl)
        rw [← List.map_take] at this
        exact this
      refine ⟨t, [_, _], rfl, SqT.of (s3 _ _ et), rfl, _, [_], rfl, _, [], rfl, rfl, ?_⟩
      have e3 := s3 _ _ e2
      walk_at "rd"
      refine ⟨.inl ⟨_, .inl e3⟩, by omega, by omega, _, DGet.k (k := Sum.inr (st ls[i].1)) e3, ?_⟩
      rw [seen_val, Int.toNat_natCast, show ((look seen ls[i].1).map tx).getD (V.str (st (List.replicate ls[i].2 45))) = tx (valOf seen ls[i]) by unfold valOf; cases look seen ls[i].1 <;> rfl]
      walk_at "rd"
      refine ⟨by omega, some (tx ls[i].1), some (.int ls[i].2), ?_, s3⟩
      rw [row_snoc ls seen i hil]
    · rintro σ H3 ⟨u4, u7, rfl, s3⟩
      walk_at "rd"
      rw [← hl2, List.take_length]
      refine ⟨by decide, fun t2 ht2 => hq t2 _ (s1.free (s2.free (s3.free ht2))) (s1.trans (s2.trans (s3.trans (same_new ht2 _)))) ?_⟩
      rw [upd_same, ← hre]
      rfl
theorem at_mod_ex {α : Type} {l : List α} {n : Nat} (hn : l.length = n) (h0 : 0 < n) (m : Int) {P : α → Prop} (hp : ∀ v ∈ l, P v) : ∃ v, atI l (m % (n : Int)) = some v ∧ P v := by
  subst hn
  have b1 := Int.emod_lt_of_pos m (show (0 : Int) < l.length by omega)
  have b2 := Int.emod_nonneg m (show (l.length : Int) ≠ 0 by omega)
  have hi : (m % (l.length : Int)).toNat < l.length := by omega
  refine ⟨l[(m % (l.length : Int)).toNat], ?_, hp _ (List.getElem_mem hi)⟩
  have e : m % (l.length : Int) = ((m % (l.length : Int)).toNat : Int) := by omega
  have q := atI_nat (List.getElem?_eq_getElem hi)
  rw [← e] at q
  exact q
theorem thing_txt {H : Hp} {l : List Nat} (h : l.length ≤ 100) (k : ∀ c ∈ l, c < 16 ^ 8) : Thing H (tx l) := ⟨h, k⟩
theorem rowSign_lt (l n : Int) : rowSign l n < 16 ^ 8 := by
  unfold rowSign
  split
  · decide
  · unfold bit; split <;> decide
def sp__law_signs (K : PySem.W.Frag) : Sp := fun vs H Q _ => match vs with
  | [.int _, .int z] => 1 ≤ z ∧ z ≤ 6 ∧ ∀ v H', Same H H' → Thing H' v → (∀ p, v = .ref p → H p = none) → Q v H'
  | _ => False
theorem ok__law_signs (T : Top K mg) : Callee P w K mg base 3 "_law_signs" ["_law_cell", "_law_size"] (sp__law_signs K) := by
  refine T.f__law_signs.cal sc__law_signs (by intro vs H Q E h; unfold sp__law_signs at h; split at h <;> first | rfl | exact h.elim) (fun _ _ _ _ _ _ us hl => match us, hl with | [_, _], _ => rfl) (fun f cdv A outer s H vs Q E hr h => ?_)
  unfold sp__law_signs at h
  split at h
  case h_2 => exact h.elim
  refine ⟨_, (pss_cons (ps_set (i := 2) sc__law_signs.nd rfl (by first | exact Or.inl rfl | exact Or.inr rfl) (pe_fn (ok__law_row T) (hr.mono (by first | decide | omega)) rfl (pa_cons (pe_op op_fdivK (qv 0) pe_int) (pa_cons (qv 1) (pa_cons (pe_op op_addK pe_int (pe_op op_modK (qv 0) pe_int)) pa_nil)))))
      (pss_cons (ps_set (i := 3) sc__law_signs.nd rfl (by first | exact Or.inl rfl | exact Or.inr rfl) (pe_op op_modK (pe_op op_fdivK (qv 0) pe_int) pe_int))
      (pss_cons (ps_if (qt_cmp op_eqK (qv 3) pe_int) (pss_one (ps_ret (pe_ix (ixE K rfl) (pe_lst (pa_cons (pe_op op_addK (qv 2) (qs [45])) (pa_cons (pe_slice (slE K rfl) (qv 2) (qo_some pe_int) po_none) (pa_cons (pe_op op_addK (pe_slice slM (qv 2) po_none (qo_some (qe_neg pe_int))) (qs [50])) pa_nil)))) (pe_op op_modK (pe_op op_fdivK (qv 0) pe_int) pe_int) (fun _ _ => rfl)))) pss_nil)
      (pss_cons (ps_if (qt_cmp op_eqK (qv 3) pe_int) (pss_cons (ps_set (i := 4) sc__law_signs.nd rfl (by first | exact Or.inl rfl | exact Or.inr rfl) (pe_op op_modK (pe_op op_fdivK (qv 0) pe_int) (qv 1)))
      (pss_one (ps_ret (pe_op op_addK (pe_op op_addK (pe_slice (slE K rfl) (qv 2) po_none (qo_some (qv 4))) (pe_ix (ixE K rfl) (pe_lst (pa_cons (qs [32]) (pa_cons (qs [97]) (pa_cons (qs [10]) (pa_cons (qs [42]) pa_nil))))) (pe_op op_modK (pe_op op_fdivK (qv 0) pe_int) pe_int) (fun _ _ => rfl))) (pe_slice (slE K rfl) (qv 2) (qo_some (pe_op op_addK (qv 4) pe_int)) po_none))))) pss_nil)
      (pss_cons (ps_if (PW.pt (pw_and (qt_cmp op_eqK (qv 3) pe_int) (pw_and1 (qt_cmp op_eqK (pe_op op_modK (pe_op op_fdivK (qv 0) pe_int) pe_int) pe_int)))) (pss_one (ps_ret (pe_ix (ixE K rfl) (pe_lst (pa_cons pe_non (pa_cons pe_bl (pa_cons pe_int (pa_cons pe_int (pa_cons (pe_callTy (call_listK K rfl rfl) rfl T.b_list bb_list (pa_cons (qv 2) pa_nil)) (pa_cons (pe_callTy (call_tupleK rfl) rfl T.b_tuple bb_tuple (pa_cons (qv 2) pa_nil)) pa_nil))))))) (pe_op op_modK (pe_op op_fdivK (qv 0) pe_int) pe_int) (fun _ _ => rfl)))) pss_nil)
      (pss_one (ps_ret (qv 2)))))))), ?_⟩
  rename_i c z
  obtain ⟨h1, h2, q⟩ := h
  walk_at "rd"
  refine ⟨by omega, by omega, by omega, fun H1 s1 => ?_⟩
  have hrl : (row (c / 18) z.toNat (1 + c % 3)).length = z.toNat := row_len _ _ _
  have hrc : ∀ x ∈ row (c / 18) z.toNat (1 + c % 3), x < 16 ^ 8 := fun x hx => by
    unfold row at hx
    obtain ⟨y, _, rfl⟩ := List.mem_map.mp hx
    exact rowSign_lt _ _
  generalize row (c / 18) z.toNat (1 + c % 3) = r at hrl hrc ⊢
  walk_at "rd"
  have ht : ∀ l : List Nat, (∀ c ∈ l, c ∈ r ∨ c < 1000) → ∀ c ∈ l, c < 16 ^ 8 := fun l h c hc => by
    rcases h c hc with z | z
    · exact hrc c z
    · omega
  have txtQ : ∀ (l : List Nat) (H2 : Hp), Same H1 H2 → l.length ≤ 100 → (∀ c ∈ l, c < 16 ^ 8) → Q (tx l) H2 := fun l H2 s2 h k => q (tx l) H2 (s1.trans s2) (thing_txt h k) fun p e => by cases e
  refine ite2 (fun g1 => ?_) fun g1 => ite2 (fun g2 => ?_) fun g2 => ?_
  · refine ⟨by omega, by omega, by omega, by omega, by omega, by rw [List.length_take]; omega, by decide, fun p hp => ?_⟩
    obtain ⟨v, ev, l, rfl, hl, hc⟩ := at_mod_ex (l := [V.str (st (r ++ [45])), V.str (st (List.drop (Int.toNat 1) r)), V.str (st (List.take (r.length - 1) r ++ [50]))]) (n := 3) rfl (by decide) (c / 18) (P := fun v => ∃ l, v = tx l ∧ l.length ≤ 100 ∧ ∀ c ∈ l, c < 16 ^ 8) (by
      intro v hv
      simp only [List.mem_cons, List.not_mem_nil, or_false] at hv
      rcases hv with rfl | rfl | rfl
      · refine ⟨_, rfl, by rw [List.length_append]; simp; omega, ht _ fun c hc => ?_⟩
        rcases List.mem_append.mp hc with z | z
        · exact .inl z
        · rw [List.mem_singleton.mp z]; exact .inr (by decide)
      · exact ⟨_, rfl, by rw [List.length_drop]; omega, ht _ fun c hc => .inl (List.mem_of_mem_drop hc)⟩
      · refine ⟨_, rfl, by rw [List.length_append, List.length_take]; simp; omega, ht _ fun c hc => ?_⟩
        rcases List.mem_append.mp hc with z | z
        · exact .inl (List.mem_of_mem_take z)
        · rw [List.mem_singleton.mp z]; exact .inr (by decide))
    exact ⟨_, _, .inl (SqL.of upd_same), ev, txtQ l _ (same_new hp _) hl hc⟩
  · have hm0 : 0 ≤ c / 18 % z := Int.emod_nonneg _ (by omega)
    have hm1 : c / 18 % z < z := Int.emod_lt_of_pos _ (by omega)
    refine ⟨by omega, by omega, by omega, by omega, by decide, fun p hp => ?_⟩
    obtain ⟨v, ev, d, rfl, hd⟩ := at_mod_ex (l := [V.str (st [32]), V.str (st [97]), V.str (st [10]), V.str (st [42])]) (n := 4) rfl (by decide) (c / 108) (P := fun v => ∃ d, v = tx [d] ∧ d < 1000) (by
      intro v hv
      simp only [List.mem_cons, List.not_mem_nil, or_false] at hv
      rcases hv with rfl | rfl | rfl | rfl <;> exact ⟨_, rfl, by decide⟩)
    refine ⟨_, _, .inl (SqL.of upd_same), ev, ?_⟩
    walk_at "rd"
    refine ⟨by rw [List.length_take]; omega, by omega, by omega, by omega, by simp only [List.length_append, List.length_take, List.length_drop, List.length_singleton]; omega, ?_⟩
    refine txtQ _ _ (same_new hp _) (by simp only [List.length_append, List.length_take, List.length_drop, List.length_singleton]; omega) (ht _ fun x hx => ?_)
    rcases List.mem_append.mp hx with hx | hx
    · rcases List.mem_append.mp hx with hx | hx
      · exact .inl (List.mem_of_mem_take hx)
      · rw [List.mem_singleton.mp hx]; exact .inr hd
    · exact .inl (List.mem_of_mem_drop hx)
  · have last : Q (V.str (st r)) H1 := txtQ r H1 (Same.refl _) (by omega) hrc
    refine ite2 (fun g3 => ite2 (fun g4 => ?_) fun _ => last) fun _ => last
    refine ⟨by omega, fun p hp => ⟨by omega, fun p1 hp1 => ⟨by decide, fun p2 hp2 => ?_⟩⟩⟩
    have few : Few (r.map fun c => [c]) := ⟨by rw [List.length_map]; omega, fun l hl => by
      obtain ⟨x, hx, rfl⟩ := List.mem_map.mp hl
      exact ⟨by simp, fun c hc => by rw [List.mem_singleton.mp hc]; exact hrc x hx⟩⟩
    have em : (r.map fun c => [c]).map (fun l => V.str (st l)) = r.map fun c => V.str (st [c]) := by rw [List.map_map]; rfl
    have s2 := same_new hp (.lst (r.map fun c => V.str (st [c])))
    have s3 := same_new hp1 (.tup (r.map fun c => V.str (st [c])))
    have s4 := same_new hp2 (.lst [V.non, V.bl true, V.int 0, V.int 10, V.ref p, V.ref p1])
    have s24 := s2.trans (s3.trans s4)
    have np1 : H1 p1 = none := s2.free hp1
    obtain ⟨v, ev, hv1, hv2⟩ := at_mod_ex (l := [V.non, V.bl true, V.int 0, V.int 10, V.ref p, V.ref p1]) (n := 6) rfl (by decide) (c / 36) (P := fun v => Thing (upd (upd (upd H1 p (.lst (r.map fun c => V.str (st [c])))) p1 (.tup (r.map fun c => V.str (st [c])))) p2 (.lst [V.non, V.bl true, V.int 0, V.int 10, V.ref p, V.ref p1])) v ∧ ∀ p, v = .ref p → H p = none) (by
      intro v hv
      simp only [List.mem_cons, List.not_mem_nil, or_false] at hv
      rcases hv with rfl | rfl | rfl | rfl | rfl | rfl
      · exact ⟨trivial, fun p e => by cases e⟩
      · exact ⟨trivial, fun p e => by cases e⟩
      · exact ⟨.inl rfl, fun p e => by cases e⟩
      · exact ⟨.inr rfl, fun p e => by cases e⟩
      · exact ⟨⟨_, few, .inl (by rw [em]; exact s4 _ _ (s3 _ _ upd_same))⟩, fun p' e => by cases e; exact s1.free hp⟩
      · exact ⟨⟨_, few, .inr (by rw [em]; exact s4 _ _ upd_same)⟩, fun p' e => by cases e; exact s1.free np1⟩)
    exact ⟨_, _, .inl (SqL.of upd_same), ev, q v _ (s1.trans s24) hv1 hv2⟩
/-- things that stand elsewhere than at g -/
def Away (g : Addr) (v : V) : Prop := ∀ p, v = .ref p → p ≠ g
theorem Thing.grow {H : Hp} {g : Addr} {o : HO} {v : V} (k : Thing H v) (a : Away g v) : Thing (upd H g o) v := by
  cases v <;> try exact k
  rename_i p
  obtain ⟨ls, h1, h2 | h2⟩ := k
  · exact ⟨ls, h1, .inl (by rw [upd_ne (a p rfl)]; exact h2)⟩
  · exact ⟨ls, h1, .inr (by rw [upd_ne (a p rfl)]; exact h2)⟩
def sp__law_parts (K : PySem.W.Frag) : Sp := fun vs H Q _ => match vs with
  | [.ref c, .ref n, .ref z] => ∃ (cs : List Int) (N : List (List Nat)) (zs : List Nat), SqL K H c (cs.map V.int) ∧ H n = some (.lst (N.map tx)) ∧ H z = some (.lst (zs.map fun z : Nat => V.int z)) ∧ N.length = zs.length + 1 ∧ 1 ≤ zs.length ∧ zs.length ≤ 8 ∧
      (∀ x ∈ zs, 1 ≤ x ∧ x ≤ 6) ∧ (∀ n ∈ N, n.length ≤ 8 ∧ ∀ x ∈ n, 97 ≤ x ∧ x ≤ 122) ∧ cs.length ≤ 10 ∧ ∀ q H' ps, H q = none → Same H H' → Parts H' q ps → ps.length ≤ 10 → Q (.ref q) H'
  | _ => False
theorem ok__law_parts (T : Top K mg) : Callee P w K mg base 4 "_law_parts" ["_law_cells", "_law_names_here", "_law_sizes"] (sp__law_parts K) := by
  refine T.f__law_parts.cal sc__law_parts (by intro vs H Q E h; unfold sp__law_parts at h; split at h <;> first | rfl | exact h.elim) (fun _ _ _ _ _ _ us hl => match us, hl with | [_, _, _], _ => rfl) (fun f cdv A outer s H vs Q E hr h => ?_)
  unfold sp__law_parts at h
  split at h
  case h_2 => exact h.elim
  refine ⟨_, (pss_cons (ps_set (i := 3) sc__law_parts.nd rfl (by first | exact Or.inl rfl | exact Or.inr rfl) (pe_lst pa_nil))
      (pss_cons (qs_for PassesOwn.never rfl (iterE K rfl (qv 0)) (pg_name (i := 4) sc__law_parts.nd rfl (by first | exact Or.inl rfl | exact Or.inr rfl)) (pss_cons (ps_set (i := 5) sc__law_parts.nd rfl (by first | exact Or.inl rfl | exact Or.inr rfl) (pe_op op_modK (pe_op op_addK (pe_callB (lenE K rfl) rfl T.b_len bb_len (pa_cons (qv 3) pa_nil)) (pe_op op_fdivK (pe_op op_modK (pe_op op_fdivK (qv 4) pe_int) pe_int) pe_int)) (pe_callB (lenE K rfl) rfl T.b_len bb_len (pa_cons (qv 2) pa_nil))))
      (pss_cons (ps_set (i := 6) sc__law_parts.nd rfl (by first | exact Or.inl rfl | exact Or.inr rfl) (pe_ix (ixE K rfl) (qv 1) (qv 5) (fun _ _ => rfl)))
      (pss_join (ps_if (qt_cmp op_eqK (pe_op op_modK (qv 4) pe_int) pe_int) (pss_one (ps_set (i := 6) sc__law_parts.nd rfl (by first | exact Or.inl rfl | exact Or.inr rfl) (pe_ix (ixE K rfl) (qv 1) (pe_callB (lenE K rfl) rfl T.b_len bb_len (pa_cons (qv 2) pa_nil)) (fun _ _ => rfl)))) pss_nil)
      (pss_one (ps_expr (qe_append (qv 3) (pe_tup (pa_cons (qv 6) (pa_cons (pe_fn (ok__law_signs T) (hr.mono (by first | decide | omega)) rfl (pa_cons (pe_op op_fdivK (qv 4) pe_int) (pa_cons (pe_ix (ixE K rfl) (qv 2) (qv 5) (fun _ _ => rfl)) pa_nil))) pa_nil))))))))))
      (pss_one (ps_ret (qv 3))))), ?_⟩
  rename_i ca na za
  obtain ⟨cs, N, zs, hc, hN, hZ, hNl, hz1, hz8, hzb, hNo, hcl, q⟩ := h
  walk_at "rd"
  refine ⟨by decide, fun g hg => ?_⟩
  have s0 := same_new hg (.lst [])
  refine .inl ⟨⟨_, s0.seq hc⟩, ?_⟩
  refine loop_items V.int cs (fun i σ H' => ∃ (ps : List Part) (vs : List V) (u4 u5 u6 : Option V), σ = [some (.ref ca), some (.ref na), some (.ref za), some (.ref g), u4, u5, u6] ∧ Same H H' ∧ H' g = some (.lst vs) ∧ Paired (PartAt H') ps vs ∧ ps.length = i ∧ ∀ x ∈ ps, (Thing H' x.2 ∧ x.1.length ≤ 8 ∧ ∀ c ∈ x.1, c < 1000) ∧ Away g x.2)
    ⟨[], [], none, none, none, rfl, s0, upd_same, .nil, rfl, fun x hx => by cases hx⟩ (fun i σ H' _ ⟨_, _, _, _, _, _, z, _⟩ => z.seq hc) ?_ ?_
  · rintro i c σ H1 hx ⟨ps, vs, u4, u5, u6, rfl, s1, e1, pr, hpl, hok⟩
    have hil : i < cs.length := (List.getElem?_eq_some_iff.mp hx).1
    walk_at "rd"
    have eN := s1 _ _ hN
    have eZ := s1 _ _ hZ
    have hgn : H g = none := hg
    refine ⟨vs, .inl (SqL.of e1), _, .inl (SqL.of eZ), by rw [List.length_map]; omega, ?_⟩
    rw [List.length_map]
    have hm0 : 0 ≤ ((vs.length : Int) + c / 8 % 9 / 8) % (zs.length : Int) := Int.emod_nonneg _ (by omega)
    have hm1 : ((vs.length : Int) + c / 8 % 9 / 8) % (zs.length : Int) < zs.length := Int.emod_lt_of_pos _ (by omega)
    obtain ⟨k, hk⟩ : ∃ k : Nat, ((vs.length : Int) + c / 8 % 9 / 8) % (zs.length : Int) = k := ⟨(((vs.length : Int) + c / 8 % 9 / 8) % (zs.length : Int)).toNat, by omega⟩
    rw [hk]
    have hkz : k < zs.length := by omega
    have nm : ∀ j, j < N.length → ∃ n, (N.map tx)[j]? = some (tx n) ∧ n.length ≤ 8 ∧ ∀ x ∈ n, x < 1000 := fun j hj => ⟨N[j], by rw [List.getElem?_map, List.getElem?_eq_getElem hj]; rfl, (hNo _ (List.getElem_mem hj)).1, fun x hx => by have := ((hNo _ (List.getElem_mem hj)).2 x hx).2; omega⟩
    obtain ⟨n1, hn1, hn1b⟩ := nm k (by omega)
    obtain ⟨n2, hn2, hn2b⟩ := nm zs.length (by omega)
    refine ⟨_, _, .inl (SqL.of eN), atI_nat hn1, fun σ' H' => ∃ n, σ' = [some (.ref ca), some (.ref na), some (.ref za), some (.ref g), some (.int c), some (.int k), some (tx n)] ∧ H' = H1 ∧ n.length ≤ 8 ∧ ∀ x ∈ n, x < 1000, ?_, ?_⟩
    · refine ite2 (fun _ => ⟨_, .inl (SqL.of eZ), _, _, .inl (SqL.of eN), atI_nat (by rw [List.length_map]; exact hn2), n2, rfl, rfl, hn2b⟩) fun _ => ⟨n1, rfl, rfl, hn1b⟩
    rintro σ' H' ⟨n, rfl, rfl, hnl, hnc⟩
    walk_at "rd"
    refine ⟨⟨_, e1⟩, _, _, .inl (SqL.of eZ), atI_nat (by rw [List.getElem?_map, List.getElem?_eq_getElem hkz]; rfl), ?_⟩
    have hzk := hzb zs[k] (List.getElem_mem hkz)
    refine ⟨by omega, by omega, fun v H2 s2 hv hvf => ⟨by decide, fun t ht => ?_⟩⟩
    have s3 := s2.trans (same_new ht (.tup [tx n, v]))
    have ne : t ≠ g := fun e => by rw [e, s2 _ _ e1] at ht; cases ht
    refine ⟨vs, s3 _ _ e1, sizeBig (by rw [← pr.length]; omega), ps ++ [(n, v)], vs ++ [.ref t], _, _, _, rfl, same_upd (s1.trans s3) hgn, upd_same, ?_, by rw [List.length_append, hpl]; rfl, fun x hx => ?_⟩
    · refine paired_snoc' (parts_keep (fun b us e => ?_) (parts_keep (fun b us e => s3 _ _ e) pr)) ⟨t, rfl, ?_⟩
      · rw [upd_ne (fun z => by rw [z, s3 _ _ e1] at e; cases e)]
        exact e
      · rw [upd_ne ne, upd_same]
    · rcases List.mem_append.mp hx with hx | hx
      · obtain ⟨⟨h1, h2⟩, h3⟩ := hok x hx
        exact ⟨⟨(h1.same s3).grow h3, h2⟩, h3⟩
      · rw [List.mem_singleton.mp hx]
        have aw : Away g v := fun p e z => by rw [z] at e; have := hvf g e; rw [e1] at this; cases this
        exact ⟨⟨(hv.same (same_new ht _)).grow aw, hnl, hnc⟩, aw⟩
  · rintro σ H1 ⟨ps, vs, u4, u5, u6, rfl, s1, e1, pr, hpl, hok⟩
    walk_at "rd"
    exact q g H1 ps hg s1 ⟨⟨vs, e1, pr⟩, fun x hx => (hok x hx).1⟩ (by omega)
theorem same_exc {H H1 : Hp} {ea C : Addr} (s : Same H H1) (h : H1 ea = none) : Same H (upd H1 ea (XO C ea)) := s.trans (same_new h _)
theorem cutV_take (xs : List V) (k : Nat) : cutV xs none (some (k : Int)) = xs.take k := by
  unfold cutV
  rw [HT.sIx_nat, HT.sIx_none, List.drop_zero, Nat.sub_zero]
  rcases Nat.le_total k xs.length with h | h
  · rw [Nat.min_eq_left h]
  · rw [Nat.min_eq_right h, List.take_of_length_le (Nat.le_refl _), List.take_of_length_le h]
theorem cut_six (ns : List Int) : ∃ cs : List Int, cutV (ns.map V.int) (some 3) (some 9) = cs.map V.int ∧ cs.length ≤ 6 := by
  refine ⟨_, by unfold cutV; rw [← List.map_drop, ← List.map_take], ?_⟩
  rw [List.length_take]
  have a : HT.sIx (ns.map V.int).length 0 (some 3) = min 3 (ns.map V.int).length := HT.sIx_nat _ _ 3
  have b : HT.sIx (ns.map V.int).length (ns.map V.int).length (some 9) = min 9 (ns.map V.int).length := HT.sIx_nat _ _ 9
  rw [a, b]
  omega
theorem paired_take {α β : Type} {F : α → β → Prop} {l : List α} {m : List β} (h : Paired F l m) (k : Nat) : Paired F (l.take k) (m.take k) := by
  induction h generalizing k with
  | nil => simp; exact .nil
  | cons r _ ih => cases k with | zero => exact .nil | succ k => exact .cons r (ih k)
theorem paired_rev {α β : Type} {F : α → β → Prop} {l : List α} {m : List β} (h : Paired F l m) : Paired F l.reverse m.reverse := by
  induction h with
  | nil => exact .nil
  | cons r _ ih => rw [List.reverse_cons, List.reverse_cons]; exact paired_snoc' ih r
theorem deep_refl {H : Hp} : ∀ (n : Nat) (v : V) (d : D), Deep K H n v d → eqD d d = true
  | 0, v, d, h => by rw [h.1, eqD]; exact eqV_refl h.2
  | n + 1, v, d, h => by
    have all : ∀ {vs : List V} {ds : List D}, Paired (Deep K H n) vs ds → eqDs ds ds = true := by
      intro vs ds p
      induction p with
      | nil => rw [eqDs]
      | cons r _ ih => rw [eqDs, deep_refl n _ _ r, ih]; rfl
    rcases h with h | ⟨a, vs, ds, _, rfl, _, p⟩ | ⟨a, vs, ds, _, rfl, _, p⟩
    · rw [h.1, eqD]; exact eqV_refl h.2
    · rw [eqD]; exact all p
    · rw [eqD]; exact all p
theorem deep_up {H : Hp} : ∀ (n : Nat) (v : V) (d : D), Deep K H n v d → Deep K H (n + 1) v d
  | 0, v, d, h => .inl h
  | n + 1, v, d, h => by
    rcases h with h | ⟨a, vs, ds, e1, e2, e3, p⟩ | ⟨a, vs, ds, e1, e2, e3, p⟩
    · exact .inl h
    · exact .inr (.inl ⟨a, vs, ds, e1, e2, e3, L2.Paired.mapP p fun v d h => deep_up n v d h⟩)
    · exact .inr (.inr ⟨a, vs, ds, e1, e2, e3, L2.Paired.mapP p fun v d h => deep_up n v d h⟩)
theorem txs_deep {H : Hp} : ∀ ls : List (List Nat), Paired (Deep K H 0) (ls.map fun l => V.str (st l)) (ls.map fun l => D.f (tx l))
  | [] => .nil
  | l :: ls => .cons ⟨rfl, rfl⟩ (txs_deep ls)
theorem thing_deep {H : Hp} {v : V} (h : Thing H v) : ∃ d, Deep K H 1 v d := by
  cases v with
  | ref p =>
    obtain ⟨ls, _, h2 | h2⟩ := h
    · exact ⟨_, .inr (.inl ⟨p, _, _, rfl, rfl, SqL.of h2, txs_deep ls⟩)⟩
    · exact ⟨_, .inr (.inr ⟨p, _, _, rfl, rfl, SqT.of h2, txs_deep ls⟩)⟩
  | non => exact ⟨_, .inl ⟨rfl, rfl⟩⟩
  | bl b => exact ⟨_, .inl ⟨rfl, rfl⟩⟩
  | int i => exact ⟨_, .inl ⟨rfl, rfl⟩⟩
  | str a => exact ⟨_, .inl ⟨rfl, rfl⟩⟩
  | _ => exact h.elim
theorem parts_deep {H : Hp} {ps : List Part} {vs : List V} (pr : Paired (PartAt H) ps vs) (h : ∀ x ∈ ps, Thing H x.2) : ∃ ds, Paired (Deep K H 2) vs ds := by
  induction pr with
  | nil => exact ⟨[], .nil⟩
  | @cons x v _ _ r _ ih =>
    obtain ⟨ds, hd⟩ := ih fun y hy => h y (List.mem_cons_of_mem _ hy)
    obtain ⟨t, rfl, et⟩ := r
    obtain ⟨d, hd1⟩ := thing_deep (K := K) (h x List.mem_cons_self)
    exact ⟨.t [.f (tx x.1), d] :: ds, .cons (.inr (.inr ⟨t, _, _, rfl, rfl, SqT.of et, .cons (.inl ⟨rfl, rfl⟩) (.cons hd1 .nil)⟩)) hd⟩
def sp_law (K : PySem.W.Frag) : Sp := fun vs H Q _ => match vs with
  | [.ref a] => ∃ ns : List Int, SqL K H a (ns.map V.int) ∧ ns.length ≤ 63 ∧ ∀ H', Q (.bl true) H'
  | _ => False
theorem ok_law (T : Top K mg) {f : Addr} {fd : FuncData} (F : Fun K "law" "law" s_law f fd) : FnOk P w K mg base CX0 5 f fd ["_law_script"] (sp_law K) := by
  refine F.ok sc_law (by intro vs H Q E h; unfold sp_law at h; split at h <;> first | rfl | exact h.elim) (fun cdv A outer s H vs Q E hr h => ?_)
  unfold sp_law at h
  split at h
  case h_2 => exact h.elim
  refine ⟨_, (pss_cons (ps_set (i := 1) sc_law.nd rfl (by first | exact Or.inl rfl | exact Or.inr rfl) (pe_op op_addK pe_int (pe_op op_modK (pe_fn (ok__law_cell_at T) (hr.mono (by first | decide | omega)) rfl (pa_cons (qv 0) (pa_cons pe_int pa_nil))) pe_int)))
      (pss_cons (ps_set (i := 2) sc_law.nd rfl (by first | exact Or.inl rfl | exact Or.inr rfl) (pe_fn (ok__law_names T) (hr.mono (by first | decide | omega)) rfl (pa_cons (pe_fn (ok__law_cell_at T) (hr.mono (by first | decide | omega)) rfl (pa_cons (qv 0) (pa_cons pe_int pa_nil))) (pa_cons (pe_op op_addK (qv 1) pe_int) pa_nil))))
      (pss_join (ps_if (qt_cmp op_eqK (pe_op op_modK (pe_op op_fdivK (pe_fn (ok__law_cell_at T) (hr.mono (by first | decide | omega)) rfl (pa_cons (qv 0) (pa_cons pe_int pa_nil))) pe_int) pe_int) pe_int) (pss_one (ps_set (i := 2) sc_law.nd rfl (by first | exact Or.inl rfl | exact Or.inr rfl) (pe_op op_addK (pe_slice (slE K rfl) (qv 2) (qo_some pe_int) po_none) (pe_slice (slE K rfl) (qv 2) po_none (qo_some pe_int))))) pss_nil)
      (pss_cons (ps_set (i := 3) sc_law.nd rfl (by first | exact Or.inl rfl | exact Or.inr rfl) (qe_comp (nt := 1) (fi := []) (N' := ["_law_number"]) rfl (cscope rfl (by decide +kernel)) (cnames (N := ["_law_script", "_law_many", "_law_names_here", "_law_sizes", "_law_layout", "_law_parts_here", "_law_handed", "_law_word_here", "_law_found", "_law_e"]) (sc := defScope s_law) rfl rfl (by decide +kernel)) (gk_name (by decide)) (iterE K rfl (pe_fn (ok__law_stream T) (hr.mono (by first | decide | omega)) rfl (pa_cons (pe_fn (ok__law_cell_at T) (hr.mono (by first | decide | omega)) rfl (pa_cons (qv 0) (pa_cons pe_int pa_nil))) (pa_cons (qv 1) pa_nil)))) (fun _ _ _ _ _ => (pg_name (i := 0) (by show (["_law_number"] : List Str).Nodup; decide +kernel) rfl (by first | exact Or.inl rfl | exact Or.inr rfl))) (fun _ _ _ _ _ => pif_nil) (fun _ _ _ _ _ => (pe_op op_addK pe_int (pe_op op_modK (qv 0) pe_int)))))
      (pss_cons (ps_setC (i := 4) (nt := 1) (fi := [2, 3]) (N' := ["_law_k", "_law_names_here", "_law_sizes"]) sc_law.nd rfl (by first | exact Or.inl rfl | exact Or.inr rfl) rfl (cscope rfl (by decide +kernel)) (cnames (N := ["_law_script", "_law_many", "_law_names_here", "_law_sizes", "_law_layout", "_law_parts_here", "_law_handed", "_law_word_here", "_law_found", "_law_e"]) (sc := defScope s_law) rfl rfl (by decide +kernel)) (gk_name (by decide)) (qi_range1 rfl T.b_range (qv 1)) (fun _ _ _ _ _ => (pg_name (i := 0) (by show (["_law_k", "_law_names_here", "_law_sizes"] : List Str).Nodup; decide +kernel) rfl (by first | exact Or.inl rfl | exact Or.inr rfl))) (fun _ _ _ _ _ => pif_nil) (fun _ _ _ _ _ => (pe_tup (pa_cons (pe_ix (ixE K rfl) (qv 1) (qv 0) (fun _ _ => rfl)) (pa_cons (pe_ix (ixE K rfl) (qv 2) (qv 0) (fun _ _ => rfl)) pa_nil)))))
      (pss_cons (ps_set (i := 5) sc_law.nd rfl (by first | exact Or.inl rfl | exact Or.inr rfl) (pe_fn (ok__law_parts T) (hr.mono (by first | decide | omega)) rfl (pa_cons (pe_slice (slE K rfl) (qv 0) (qo_some pe_int) (qo_some pe_int)) (pa_cons (qv 2) (pa_cons (qv 3) pa_nil)))))
      (pss_join (ps_if (qt_cmp op_eqK (pe_op op_modK (pe_op op_fdivK (pe_fn (ok__law_cell_at T) (hr.mono (by first | decide | omega)) rfl (pa_cons (qv 0) (pa_cons pe_int pa_nil))) pe_int) pe_int) pe_int) (pss_one (ps_set (i := 5) sc_law.nd rfl (by first | exact Or.inl rfl | exact Or.inr rfl) (qe_listrev (K := K) rfl rfl rfl T.b_list rfl T.b_reversed (pe_slice (slE K rfl) (qv 5) po_none (qo_some (qv 1)))))) pss_nil)
      (pss_cons (ps_set (i := 6) sc_law.nd rfl (by first | exact Or.inl rfl | exact Or.inr rfl) (pe_lst (pa_cons (pe_callTy (call_listK K rfl rfl) rfl T.b_list bb_list (pa_cons (qv 4) pa_nil)) (pa_cons (pe_callTy (call_listK K rfl rfl) rfl T.b_list bb_list (pa_cons (qv 5) pa_nil)) pa_nil))))
      (pss_cons (ps_set (i := 7) sc_law.nd rfl (by first | exact Or.inl rfl | exact Or.inr rfl) (qs [110, 111, 110, 101]))
      (pss_cons (ps_set (i := 8) sc_law.nd rfl (by first | exact Or.inl rfl | exact Or.inr rfl) pe_non)
      (pss_join (ps_tryAs (D := xA K "ThrongError") (i := 9) (fun _ _ => (pss_one (ps_set (i := 8) sc_law.nd rfl (by first | exact Or.inl rfl | exact Or.inr rfl) (pe_fnT (ok_field_row T) (hr.mono (by first | decide | omega)) passesT rfl (pa_cons (pe_ix (ixE K rfl) (qv 6) pe_int (fun _ _ => rfl)) (pa_cons (pe_ix (ixE K rfl) (qv 6) pe_int (fun _ _ => rfl)) pa_nil)))))) (fun _ => (pss_one (ps_set (i := 7) sc_law.nd rfl (by first | exact Or.inl rfl | exact Or.inr rfl) (pe_fnH (ok__law_word T) ((hr.h.mark _).mono (by first | decide | omega)) rfl (pa_cons (qv 9) pa_nil))))) rfl rfl rfl T.x_ThrongError.1 T.x_ThrongError.2 sc_law.nd rfl rfl)
      (pss_cons (ps_if (qt_cmp (neDE K rfl hr) (pe_tup (pa_cons (qv 7) (pa_cons (qv 8) pa_nil))) (pe_fn (ok__law_due T) (hr.mono (by first | decide | omega)) rfl (pa_cons (qv 4) (pa_cons (qv 5) pa_nil)))) (pss_one (ps_ret pe_bl)) pss_nil)
      (pss_cons (ps_if (qt_cmp (neDE K rfl hr) (qv 6) (pe_lst (pa_cons (qv 4) (pa_cons (qv 5) pa_nil)))) (pss_one (ps_ret pe_bl)) pss_nil)
      (pss_one (ps_ret (qe_cmp op_eqK (pe_fn (ok_field_row T).calm (hr.mono (by first | decide | omega)) rfl (pa_cons (pe_ix (ixE K rfl) (qv 6) pe_int (fun _ _ => rfl)) (pa_cons (pe_lst pa_nil) pa_nil))) (pe_op op_mulK (qs [45]) (pe_callB (call_sumK K rfl rfl) rfl T.b_sum bb_sum (pa_cons (qv 3) pa_nil))))))))))))))))))), ?_⟩
  rename_i a
  obtain ⟨ns, hS, hlen, q⟩ := h
  walk_at "rd"
  refine cell_here hS (by decide) ?_
  walk_at "rd"
  obtain ⟨M, hM⟩ : ∃ M : Nat, 1 + cell ns (Int.toNat 0) % 5 = M := ⟨(1 + cell ns (Int.toNat 0) % 5).toNat, by omega⟩
  have hM1 : 1 ≤ M := by omega
  have hM8 : M ≤ 5 := by omega
  rw [hM]
  refine cell_here hS (by decide) ⟨by omega, by omega, fun na H1 hna s1 e1 => ?_⟩
  have hS1 := s1.seq hS
  walk_at "rd"
  obtain ⟨N, hN, hNd, hNo, e1⟩ : ∃ N : List (List Nat), N.length = M + 1 ∧ N.Nodup ∧ (∀ n ∈ N, n.length ≤ 8 ∧ ∀ x ∈ n, 97 ≤ x ∧ x ≤ 122) ∧ H1 na = some (.lst (N.map tx)) :=
    ⟨_, by rw [nameL_len]; omega, nameL_nodup (by omega), nameL_ok, e1⟩
  refine ⟨fun σ' H' => ∃ (na : Addr) (N : List (List Nat)), σ' = [some (.ref a), some (.int M), some (.ref na), none, none, none, none, none, none, none] ∧ Same H1 H' ∧ N.length = M + 1 ∧ N.Nodup ∧ (∀ n ∈ N, n.length ≤ 8 ∧ ∀ x ∈ n, 97 ≤ x ∧ x ≤ 122) ∧ H' na = some (.lst (N.map tx)), ?_, ?_⟩
  · refine cell_here hS1 (by decide) ?_
    walk_at "rd"
    refine ite2 (fun _ => ⟨_, SqL.of e1, fun b hb => ⟨_, SqL.of (same_new hb _ _ _ e1), fun c hc => ?_⟩⟩) fun _ => ⟨na, N, rfl, Same.refl _, hN, hNd, hNo, e1⟩
    rw [show (some 1 : Option Int) = some ((1 : Nat) : Int) from rfl, cutV_from _ 1 (by rw [List.length_map]; omega), cutV_to _ 1 (by rw [List.length_map]; omega)] at *
    refine ⟨_, _, same_new hc _ _ _ upd_same, upd_same, by simp only [List.length_drop, List.length_take, List.length_map]; exact Nat.le_of_lt (sizeBig (by omega)), fun d hd => ⟨d, N.drop 1 ++ N.take 1, rfl, ((same_new hb _).trans (same_new hc _)).trans (same_new hd _), ?_, rot_nodup hNd, fun n hn => hNo n ?_, ?_⟩⟩
    · simp only [List.length_append, List.length_drop, List.length_take]; omega
    · rcases List.mem_append.mp hn with z | z
      · exact List.mem_of_mem_drop z
      · exact List.mem_of_mem_take z
    · rw [upd_same, List.map_append, List.map_drop, List.map_take]
  clear s1 hna
  rintro σ' H2 ⟨nb, N, rfl, s2, hN, hNd, hNo, e2⟩
  have hS2 := s2.seq hS1
  walk_at "rd"
  refine cell_here hS2 (by decide) ⟨by omega, by omega, fun pa H3 hpa s3 e3 => .inl ⟨⟨_, SqL.of e3⟩, fun za hza => ?_⟩⟩
  rw [Int.toNat_natCast] at e3
  refine comp_list (item := V.int) (xs := stream (cell ns (Int.toNat 2)) M) (h := fun e => [V.int (1 + e % 6)]) hza (SqL.of e3) (by simp [stream_len]; omega) (fun _ => by simp) ?_ ?_
  · intro e H4 out non he s4 ho hn
    walk_at "rd"
    exact ho _ _ rfl (Same.refl _)
  intro H4 s4 e4
  rw [flat_one' (fun e => V.int (1 + e % 6))] at e4
  obtain ⟨zs, hz3, hzb, e4⟩ : ∃ zs : List Nat, zs.length = M ∧ (∀ z ∈ zs, 1 ≤ z ∧ z ≤ 6) ∧ H4 za = some (.lst (zs.map fun z : Nat => V.int z)) := by
    refine ⟨(stream (cell ns (Int.toNat 2)) M).map fun e => (1 + e % 6).toNat, by rw [List.length_map, stream_len], fun z hz => ?_, ?_⟩
    · obtain ⟨e, _, rfl⟩ := List.mem_map.mp hz
      omega
    · rw [e4, List.map_map]
      congr 2
      apply List.map_congr_left
      intro e _
      show V.int (1 + e % 6) = V.int (((1 + e % 6).toNat : Nat) : Int)
      congr 1
      omega
  have s34 := s3.trans s4
  have hS4 := s34.seq hS2
  have e2 := s34 _ _ e2
  walk_at "rd"
  refine ⟨by omega, by omega, fun D hD => ?_⟩
  have hNk : ∀ k, k < M → ∃ n, N[k]? = some n := fun k hk => ⟨_, List.getElem?_eq_getElem (by omega)⟩
  have hZk : ∀ k, k < M → ∃ z, zs[k]? = some z := fun k hk => ⟨_, List.getElem?_eq_getElem (by omega)⟩
  refine comp_relR (R := fun k v H' => ∃ n z, N[k]? = some n ∧ zs[k]? = some z ∧ FldAt H' (n, z) v) hD (by omega) (fun k v HA HB acc hA hk ⟨n, z, h1, h2, t, h3, h4⟩ => ⟨n, z, h1, h2, t, h3, hk t _ (fun e => by rw [e, hA] at h4; cases h4) h4⟩) ?_ ?_
  · intro k H5 out non hk s5 ho
    obtain ⟨n, hn⟩ := hNk k (by omega)
    obtain ⟨z, hz⟩ := hZk k (by omega)
    walk_at "rd"
    refine ⟨_, _, .inl (SqL.of (s5 _ _ e2)), atI_nat (by rw [List.getElem?_map, hn]; rfl), ?_⟩
    refine ⟨_, _, .inl (SqL.of (s5 _ _ e4)), atI_nat (by rw [List.getElem?_map, hz]; rfl), by decide, fun t ht => ?_⟩
    exact ho _ _ (same_new ht _) ⟨n, z, hn, hz, t, rfl, upd_same⟩
  intro H5 lv s5 e5 pr
  have hlv : lv.length = M := by rw [← pr.length, List.length_range]; omega
  have hTl : (N.take M).length = zs.length := by rw [List.length_take]; omega
  obtain ⟨ls, hls, hL5⟩ : ∃ ls : List Fld, ls = (N.take M).zip zs ∧ Paired (FldAt H5) ls lv := by
    refine ⟨_, rfl, paired_mk (by rw [List.length_zip, hlv]; omega) fun k x y ex ey => ?_⟩
    have hk : k < M := by
      have := (List.getElem?_eq_some_iff.mp ey).1
      omega
    obtain ⟨y', hy', n, z, h1, h2, h3⟩ := paired_at pr (j := k) (x := k) (by rw [List.getElem?_range (by omega)])
    rw [ey] at hy'; cases hy'
    have ex' : ((N.take M).zip zs)[k]? = some (n, z) := by
      rw [List.getElem?_zip_eq_some]
      exact ⟨by rw [List.getElem?_take_of_lt hk]; exact h1, h2⟩
    rw [ex] at ex'; cases ex'
    exact h3
  have hll : ls.length = M := by rw [hL5.length, hlv]
  have l1 : ls.map (·.1) = N.take M := by rw [hls]; exact zip_fst hTl
  have l2 : ls.map (·.2) = zs := by rw [hls]; exact zip_snd hTl
  have hw : widthL ls = zs.sum := by unfold widthL; rw [l2]
  have hnd : (ls.map (·.1)).Nodup := by rw [l1]; exact hNd.sublist (List.take_sublist _ _)
  have hsum := sum_le (zs := zs) fun z hz => Nat.le_trans (hzb z hz).2 (by decide)
  clear hls
  have hS5 := s5.seq hS4
  have e2 := s5 _ _ e2
  have e4 := s5 _ _ e4
  have hLa : Lay H5 D ls := ⟨lv, e5, hL5⟩
  walk_at "rd"
  obtain ⟨cs, hcs, hcl⟩ := cut_six ns
  refine ⟨_, hS5, fun qa hqa => ?_⟩
  rw [hcs]
  have s6 := same_new hqa (.lst (cs.map V.int))
  refine ⟨cs, N, zs, SqL.of upd_same, s6 _ _ e2, s6 _ _ e4, by omega, by omega, by omega, hzb, hNo, by omega, fun pb H7 ps hpb s7 hP7 hpl => ?_⟩
  have s67 := s6.trans s7
  have hS7 := s67.seq hS5
  have e2 := s67 _ _ e2
  have e4 := s67 _ _ e4
  have e5 := s67 _ _ e5
  have hLa := hLa.same s67
  walk_at "rd"
  refine ⟨fun σ' H' => ∃ (pc : Addr) (ps : List Part), σ' = [some (.ref a), some (.int M), some (.ref nb), some (.ref za), some (.ref D), some (.ref pc), none, none, none, none] ∧ Same H7 H' ∧ Parts H' pc ps ∧ ps.length ≤ 10, ?_, ?_⟩
  · refine cell_here hS7 (by decide) ?_
    walk_at "rd"
    refine ite2 (fun _ => ?_) fun _ => ⟨pb, ps, rfl, Same.refl _, hP7, hpl⟩
    obtain ⟨⟨vs, ev, prv⟩, hok⟩ := hP7
    refine ⟨_, SqL.of ev, fun b hb => ⟨_, SqL.of upd_same, fun c hc => ?_⟩⟩
    rw [cutV_take] at hc ⊢
    have sb := (same_new hb (.lst (vs.take M))).trans (same_new hc (.lst (vs.take M).reverse))
    refine ⟨c, (ps.take M).reverse, rfl, sb, ⟨⟨_, upd_same, parts_keep (fun t us q => sb _ _ q) (paired_rev (paired_take prv M))⟩, fun x hx => ?_⟩, ?_⟩
    · have := hok x (List.mem_of_mem_take (List.mem_reverse.mp hx))
      exact ⟨this.1.same sb, this.2⟩
    · rw [List.length_reverse, List.length_take]; omega
  clear hP7 hpl hpb s7 s67
  rintro σ' H8 ⟨pc, ps, rfl, s8, hP, hpl⟩
  have e4 := s8 _ _ e4
  have e5 := s8 _ _ e5
  have hLa := hLa.same s8
  obtain ⟨⟨vs, ev, prv⟩, hok⟩ := id hP
  have hvl := prv.length
  walk_at "rd"
  refine ⟨lv, .inl (SqL.of e5), fun ha hha => ?_⟩
  have s9 := same_new hha (.lst lv)
  refine ⟨vs, .inl (SqL.of (s9 _ _ ev)), fun hb hhb => ⟨by decide, fun hh hhh => ?_⟩⟩
  have s10 := s9.trans ((same_new hhb (.lst vs)).trans (same_new hhh (.lst [.ref ha, .ref hb])))
  have eA : upd (upd (upd H8 ha (.lst lv)) hb (.lst vs)) hh (.lst [.ref ha, .ref hb]) ha = some (.lst lv) := same_new hhh _ _ _ (same_new hhb _ _ _ upd_same)
  have eB : upd (upd (upd H8 ha (.lst lv)) hb (.lst vs)) hh (.lst [.ref ha, .ref hb]) hb = some (.lst vs) := same_new hhh _ _ _ upd_same
  have eH : upd (upd (upd H8 ha (.lst lv)) hb (.lst vs)) hh (.lst [.ref ha, .ref hb]) hh = some (.lst [.ref ha, .ref hb]) := upd_same
  generalize upd (upd (upd H8 ha (.lst lv)) hb (.lst vs)) hh (.lst [.ref ha, .ref hb]) = H9 at s10 eA eB eH ⊢
  have hLa := hLa.same s10
  have hP9 := hP.same s10
  have e4 := s10 _ _ e4
  obtain ⟨lv', eL', prL'⟩ := id hLa
  have hLh : Lay H9 ha ls := ⟨lv', by rw [show lv' = lv from by have := s10 _ _ e5; rw [eL'] at this; cases this; rfl]; exact eA, prL'⟩
  obtain ⟨⟨vs', ev', prv'⟩, hok'⟩ := id hP9
  have hPh : Parts H9 hb ps := ⟨⟨vs', by rw [show vs' = vs from by have := s10 _ _ ev; rw [ev'] at this; cases this; rfl]; exact eB, prv'⟩, hok'⟩
  walk_at "rd"
  refine ⟨fun σ' H' => ∃ wv fv, σ' = [some (.ref a), some (.int M), some (.ref nb), some (.ref za), some (.ref D), some (.ref pc), some (.ref hh), some wv, some fv, none] ∧ Same H9 H' ∧ [wv, fv] = dueV (resF ls ps []), ?_, ?_⟩
  · refine ⟨_, _, .inl (SqL.of eH), rfl, _, _, .inl (SqL.of eH), rfl, ?_⟩
    refine ⟨ls, ps, hLh, hPh, hnd, by omega, by omega, by omega, ?_⟩
    cases hres : resF ls ps [] with
    | row r =>
      intro H10 s11
      exact ⟨_, _, rfl, s11, rfl⟩
    | no =>
      intro H10 s11
      refine ⟨_, rfl, T.m_NoField_ThrongError.caught, fun ea hea => ?_⟩
      exact ⟨"NoField", false, false, true, upd_same, T.x_NoField.2, T.m_NoField_Misfit, T.m_NoField_Twice, T.m_NoField_NoField, T.m_NoField_NoRule, T.m_NoField_NoWay, T.m_NoField_NoDoor, T.m_NoField_NoHouse, T.m_NoField_NoLine, T.m_NoField_BadWord, T.m_NoField_Unlike, T.v_NoField, by decide, fun H11 s12 => ⟨_, _, rfl, (same_exc s11 hea).trans s12, rfl⟩⟩
    | twice =>
      intro H10 s11
      refine ⟨_, rfl, T.m_Twice_ThrongError.caught, fun ea hea => ?_⟩
      exact ⟨"Twice", false, true, false, upd_same, T.x_Twice.2, T.m_Twice_Misfit, T.m_Twice_Twice, T.m_Twice_NoField, T.m_Twice_NoRule, T.m_Twice_NoWay, T.m_Twice_NoDoor, T.m_Twice_NoHouse, T.m_Twice_NoLine, T.m_Twice_BadWord, T.m_Twice_Unlike, T.v_Twice, by decide, fun H11 s12 => ⟨_, _, rfl, (same_exc s11 hea).trans s12, rfl⟩⟩
    | misfit =>
      intro H10 s11
      refine ⟨_, rfl, T.m_Misfit_ThrongError.caught, fun ea hea => ?_⟩
      exact ⟨"Misfit", true, false, false, upd_same, T.x_Misfit.2, T.m_Misfit_Misfit, T.m_Misfit_Twice, T.m_Misfit_NoField, T.m_Misfit_NoRule, T.m_Misfit_NoWay, T.m_Misfit_NoDoor, T.m_Misfit_NoHouse, T.m_Misfit_NoLine, T.m_Misfit_BadWord, T.m_Misfit_Unlike, T.v_Misfit, by decide, fun H11 s12 => ⟨_, _, rfl, (same_exc s11 hea).trans s12, rfl⟩⟩
  rintro σ' H10 ⟨wv, fv, rfl, s11, hd⟩
  have hflat : ∀ (H : Hp) (r : Res), Paired (Deep K H 0) (dueV r) ((dueV r).map L2.D.f) := fun H r => by
    cases r <;> exact .cons ⟨rfl, rfl⟩ (.cons ⟨rfl, rfl⟩ .nil)
  walk_at "rd"
  refine ⟨by decide, fun p1 hp1 => ?_⟩
  have s12 := s11.trans (same_new hp1 (.tup [wv, fv]))
  refine ⟨ls, ps, hLa.same s12, hP9.same s12, hnd, by omega, by omega, by omega, fun p2 H11 hp2 s13 e13 => ?_⟩
  have s9b := s12.trans s13
  have e12 : H11 p1 = some (.tup (dueV (resF ls ps []))) := by rw [← hd]; exact s13 _ _ upd_same
  have dd1 : Deep K H11 1 (.ref p1) (.t ((dueV (resF ls ps [])).map L2.D.f)) := .inr (.inr ⟨p1, _, _, rfl, rfl, SqT.of e12, hflat _ _⟩)
  have dd2 : Deep K H11 1 (.ref p2) (.t ((dueV (resF ls ps [])).map L2.D.f)) := .inr (.inr ⟨p2, _, _, rfl, rfl, SqT.of e13, hflat _ _⟩)
  walk_at "rd"
  refine ⟨1, _, _, by decide, dd1, dd2, ?_⟩
  rw [deep_refl 1 _ _ dd1]
  walk_at "rd"
  refine ⟨by decide, fun p3 hp3 => ?_⟩
  have s14 := s9b.trans (same_new hp3 (.lst [.ref D, .ref pc]))
  have e14 : upd H11 p3 (.lst [.ref D, .ref pc]) p3 = some (.lst [.ref D, .ref pc]) := upd_same
  generalize upd H11 p3 (.lst [.ref D, .ref pc]) = H12 at s14 e14 ⊢
  obtain ⟨⟨vs2, ev2, prv2⟩, hok2⟩ := hP9.same s14
  obtain ⟨⟨vs3, ev3, prv3⟩, hok3⟩ := hPh.same s14
  have evs : vs3 = vs2 := by
    have h1 := s14 _ _ eB
    have h2 := s14 _ _ (s10 _ _ ev)
    rw [ev3] at h1
    rw [ev2] at h2
    cases h1
    cases h2
    rfl
  subst evs
  obtain ⟨ds, hds⟩ := parts_deep (K := K) prv2 fun x hx => (hok2 x hx).1
  have dP1 : Deep K H12 3 (.ref hb) (.l ds) := .inr (.inl ⟨hb, _, _, rfl, rfl, SqL.of ev3, hds⟩)
  have dP2 : Deep K H12 3 (.ref pc) (.l ds) := .inr (.inl ⟨pc, _, _, rfl, rfl, SqL.of ev2, hds⟩)
  have dL1 := deep_up 2 _ _ (lay_deep (K := K) (hLh.same s14))
  have dL2 := deep_up 2 _ _ (lay_deep (K := K) (hLa.same s14))
  have dH1 : Deep K H12 4 (.ref hh) (.l [.l (ls.map fldD), .l ds]) := .inr (.inl ⟨hh, _, _, rfl, rfl, SqL.of (s14 _ _ eH), .cons dL1 (.cons dP1 .nil)⟩)
  have dH2 : Deep K H12 4 (.ref p3) (.l [.l (ls.map fldD), .l ds]) := .inr (.inl ⟨p3, _, _, rfl, rfl, SqL.of e14, .cons dL2 (.cons dP2 .nil)⟩)
  refine ⟨4, _, _, by decide, dH1, dH2, ?_⟩
  rw [deep_refl 4 _ _ dH1]
  walk_at "rd"
  refine ⟨_, _, .inl (SqL.of (s14 _ _ eH)), rfl, by decide, fun p4 hp4 => ?_⟩
  have s15 := s14.trans (same_new hp4 (.lst []))
  refine ⟨ls, [], hLh.same s15, ⟨⟨[], upd_same, .nil⟩, fun x hx => by cases hx⟩, hnd, by omega, by omega, by decide, ?_⟩
  show resX K _ _ _ (.row (rowOf ls []))
  intro H13 s16
  have s17 := s15.trans s16
  walk_at "rd"
  refine ⟨_, ints_of (s17 _ _ e4), ?_⟩
  rw [sum_cast]
  walk_at "rd"
  refine ⟨by omega, by omega, ?_⟩
  rw [row_bare, hw, Int.toNat_natCast]
  have hqq := q H13
  simpa using hqq
end
theorem all_mk {K : PySem.W.Frag} {h : Heap} {mg : Str → Option Value} (X : K.In h) (G : h.Ns mainGlobals mg)
    {f0 : Addr} {od0 an0 : Option Addr} {sl0 : Array (Option Value)} {oc0 kV0 dc0 pm0 cd0 ct0 : Value}
    {f1 : Addr} {od1 an1 : Option Addr} {sl1 : Array (Option Value)} {oc1 kV1 dc1 pm1 cd1 ct1 : Value}
    {f2 : Addr} {od2 an2 : Option Addr} {sl2 : Array (Option Value)} {oc2 kV2 dc2 pm2 cd2 ct2 : Value}
    {f3 : Addr} {od3 an3 : Option Addr} {sl3 : Array (Option Value)} {oc3 kV3 dc3 pm3 cd3 ct3 : Value}
    {f4 : Addr} {od4 an4 : Option Addr} {sl4 : Array (Option Value)} {oc4 kV4 dc4 pm4 cd4 ct4 : Value}
    {f5 : Addr} {od5 an5 : Option Addr} {sl5 : Array (Option Value)} {oc5 kV5 dc5 pm5 cd5 ct5 : Value}
    {f6 : Addr} {od6 an6 : Option Addr} {sl6 : Array (Option Value)} {oc6 kV6 dc6 pm6 cd6 ct6 : Value}
    {f7 : Addr} {od7 an7 : Option Addr} {sl7 : Array (Option Value)} {oc7 kV7 dc7 pm7 cd7 ct7 : Value}
    {f8 : Addr} {od8 an8 : Option Addr} {sl8 : Array (Option Value)} {oc8 kV8 dc8 pm8 cd8 ct8 : Value}
    {f9 : Addr} {od9 an9 : Option Addr} {sl9 : Array (Option Value)} {oc9 kV9 dc9 pm9 cd9 ct9 : Value}
    {f10 : Addr} {od10 an10 : Option Addr} {sl10 : Array (Option Value)} {oc10 kV10 dc10 pm10 cd10 ct10 : Value}
    {f11 : Addr} {od11 an11 : Option Addr} {sl11 : Array (Option Value)} {oc11 kV11 dc11 pm11 cd11 ct11 : Value}
    {f12 : Addr} {od12 an12 : Option Addr} {sl12 : Array (Option Value)} {oc12 kV12 dc12 pm12 cd12 ct12 : Value}
    {f13 : Addr} {od13 an13 : Option Addr} {sl13 : Array (Option Value)} {oc13 kV13 dc13 pm13 cd13 ct13 : Value}
    {f14 : Addr} {od14 an14 : Option Addr} {sl14 : Array (Option Value)} {oc14 kV14 dc14 pm14 cd14 ct14 : Value}
    (a0 : PySem.W.nsIn K mainGlobals "is_row" = some (some (.ref f0))) (l0 : K.lookup f0 = some ⟨oc0, od0, .func (PySem.W.fnOf "is_row" "is_row" (defArgs s_is_row) (defBody s_is_row) (defScope s_is_row) .none kV0 dc0 pm0 an0 cd0 ct0), sl0⟩) (c0 : PySem.W.codeIn K cd0 "is_row" = true) (k0 : PySem.W.keepIn K (.ref f0) = true)
    (a1 : PySem.W.nsIn K mainGlobals "is_text_of" = some (some (.ref f1))) (l1 : K.lookup f1 = some ⟨oc1, od1, .func (PySem.W.fnOf "is_text_of" "is_text_of" (defArgs s_is_text_of) (defBody s_is_text_of) (defScope s_is_text_of) .none kV1 dc1 pm1 an1 cd1 ct1), sl1⟩) (c1 : PySem.W.codeIn K cd1 "is_text_of" = true) (k1 : PySem.W.keepIn K (.ref f1) = true)
    (a2 : PySem.W.nsIn K mainGlobals "layout_width" = some (some (.ref f2))) (l2 : K.lookup f2 = some ⟨oc2, od2, .func (PySem.W.fnOf "layout_width" "layout_width" (defArgs s_layout_width) (defBody s_layout_width) (defScope s_layout_width) .none kV2 dc2 pm2 an2 cd2 ct2), sl2⟩) (c2 : PySem.W.codeIn K cd2 "layout_width" = true) (k2 : PySem.W.keepIn K (.ref f2) = true)
    (a3 : PySem.W.nsIn K mainGlobals "field_span" = some (some (.ref f3))) (l3 : K.lookup f3 = some ⟨oc3, od3, .func (PySem.W.fnOf "field_span" "field_span" (defArgs s_field_span) (defBody s_field_span) (defScope s_field_span) .none kV3 dc3 pm3 an3 cd3 ct3), sl3⟩) (c3 : PySem.W.codeIn K cd3 "field_span" = true) (k3 : PySem.W.keepIn K (.ref f3) = true)
    (a4 : PySem.W.nsIn K mainGlobals "field_row" = some (some (.ref f4))) (l4 : K.lookup f4 = some ⟨oc4, od4, .func (PySem.W.fnOf "field_row" "field_row" (defArgs s_field_row) (defBody s_field_row) (defScope s_field_row) .none kV4 dc4 pm4 an4 cd4 ct4), sl4⟩) (c4 : PySem.W.codeIn K cd4 "field_row" = true) (k4 : PySem.W.keepIn K (.ref f4) = true)
    (a5 : PySem.W.nsIn K mainGlobals "_law_cell_at" = some (some (.ref f5))) (l5 : K.lookup f5 = some ⟨oc5, od5, .func (PySem.W.fnOf "_law_cell_at" "_law_cell_at" (defArgs s__law_cell_at) (defBody s__law_cell_at) (defScope s__law_cell_at) .none kV5 dc5 pm5 an5 cd5 ct5), sl5⟩) (c5 : PySem.W.codeIn K cd5 "_law_cell_at" = true) (k5 : PySem.W.keepIn K (.ref f5) = true)
    (a6 : PySem.W.nsIn K mainGlobals "_law_stream" = some (some (.ref f6))) (l6 : K.lookup f6 = some ⟨oc6, od6, .func (PySem.W.fnOf "_law_stream" "_law_stream" (defArgs s__law_stream) (defBody s__law_stream) (defScope s__law_stream) .none kV6 dc6 pm6 an6 cd6 ct6), sl6⟩) (c6 : PySem.W.codeIn K cd6 "_law_stream" = true) (k6 : PySem.W.keepIn K (.ref f6) = true)
    (a7 : PySem.W.nsIn K mainGlobals "_law_row" = some (some (.ref f7))) (l7 : K.lookup f7 = some ⟨oc7, od7, .func (PySem.W.fnOf "_law_row" "_law_row" (defArgs s__law_row) (defBody s__law_row) (defScope s__law_row) .none kV7 dc7 pm7 an7 cd7 ct7), sl7⟩) (c7 : PySem.W.codeIn K cd7 "_law_row" = true) (k7 : PySem.W.keepIn K (.ref f7) = true)
    (a8 : PySem.W.nsIn K mainGlobals "_law_names" = some (some (.ref f8))) (l8 : K.lookup f8 = some ⟨oc8, od8, .func (PySem.W.fnOf "_law_names" "_law_names" (defArgs s__law_names) (defBody s__law_names) (defScope s__law_names) .none kV8 dc8 pm8 an8 cd8 ct8), sl8⟩) (c8 : PySem.W.codeIn K cd8 "_law_names" = true) (k8 : PySem.W.keepIn K (.ref f8) = true)
    (a9 : PySem.W.nsIn K mainGlobals "_law_is_row" = some (some (.ref f9))) (l9 : K.lookup f9 = some ⟨oc9, od9, .func (PySem.W.fnOf "_law_is_row" "_law_is_row" (defArgs s__law_is_row) (defBody s__law_is_row) (defScope s__law_is_row) .none kV9 dc9 pm9 an9 cd9 ct9), sl9⟩) (c9 : PySem.W.codeIn K cd9 "_law_is_row" = true) (k9 : PySem.W.keepIn K (.ref f9) = true)
    (a10 : PySem.W.nsIn K mainGlobals "_law_word" = some (some (.ref f10))) (l10 : K.lookup f10 = some ⟨oc10, od10, .func (PySem.W.fnOf "_law_word" "_law_word" (defArgs s__law_word) (defBody s__law_word) (defScope s__law_word) .none kV10 dc10 pm10 an10 cd10 ct10), sl10⟩) (c10 : PySem.W.codeIn K cd10 "_law_word" = true) (k10 : PySem.W.keepIn K (.ref f10) = true)
    (a11 : PySem.W.nsIn K mainGlobals "_law_signs" = some (some (.ref f11))) (l11 : K.lookup f11 = some ⟨oc11, od11, .func (PySem.W.fnOf "_law_signs" "_law_signs" (defArgs s__law_signs) (defBody s__law_signs) (defScope s__law_signs) .none kV11 dc11 pm11 an11 cd11 ct11), sl11⟩) (c11 : PySem.W.codeIn K cd11 "_law_signs" = true) (k11 : PySem.W.keepIn K (.ref f11) = true)
    (a12 : PySem.W.nsIn K mainGlobals "_law_due" = some (some (.ref f12))) (l12 : K.lookup f12 = some ⟨oc12, od12, .func (PySem.W.fnOf "_law_due" "_law_due" (defArgs s__law_due) (defBody s__law_due) (defScope s__law_due) .none kV12 dc12 pm12 an12 cd12 ct12), sl12⟩) (c12 : PySem.W.codeIn K cd12 "_law_due" = true) (k12 : PySem.W.keepIn K (.ref f12) = true)
    (a13 : PySem.W.nsIn K mainGlobals "_law_parts" = some (some (.ref f13))) (l13 : K.lookup f13 = some ⟨oc13, od13, .func (PySem.W.fnOf "_law_parts" "_law_parts" (defArgs s__law_parts) (defBody s__law_parts) (defScope s__law_parts) .none kV13 dc13 pm13 an13 cd13 ct13), sl13⟩) (c13 : PySem.W.codeIn K cd13 "_law_parts" = true) (k13 : PySem.W.keepIn K (.ref f13) = true)
    (a14 : PySem.W.nsIn K mainGlobals "law" = some (some (.ref f14))) (l14 : K.lookup f14 = some ⟨oc14, od14, .func (PySem.W.fnOf "law" "law" (defArgs s_law) (defBody s_law) (defScope s_law) .none kV14 dc14 pm14 an14 cd14 ct14), sl14⟩) (c14 : PySem.W.codeIn K cd14 "law" = true) (k14 : PySem.W.keepIn K (.ref f14) = true)
    (z_isinstance : PySem.W.nsIn K mainGlobals "isinstance" = some none)
    (z_str : PySem.W.nsIn K mainGlobals "str" = some none)
    (z_len : PySem.W.nsIn K mainGlobals "len" = some none)
    (z_sum : PySem.W.nsIn K mainGlobals "sum" = some none)
    (z_range : PySem.W.nsIn K mainGlobals "range" = some none)
    (z_ValueError : PySem.W.nsIn K mainGlobals "ValueError" = some none)
    (z_list : PySem.W.nsIn K mainGlobals "list" = some none)
    (z_tuple : PySem.W.nsIn K mainGlobals "tuple" = some none)
    (z_reversed : PySem.W.nsIn K mainGlobals "reversed" = some none)
    {C_NoField : Addr} (n_NoField : PySem.W.nsIn K mainGlobals "NoField" = some (some (.ref C_NoField))) (q_NoField : PySem.W.excIn K C_NoField bmV "ValueError.__new__" = true) (t_NoField : PySem.W.typeIn K (.ref C_NoField) = some (.type "type")) (b_NoField : PySem.W.mroIn K C_NoField (.type "BaseException") = some true) (g_NoField : PySem.W.findIn K (.ref C_NoField) "__getattribute__" = some (some (.builtin "BaseException.__getattribute__"))) (h_NoField : PySem.W.findIn K (.ref C_NoField) "__getattr__" = some none) (a_NoField : PySem.W.findIn K (.ref C_NoField) "__class__" = some (some (.builtin "object.__class__"))) (o_NoField : PySem.W.mroIn K C_NoField (.type "object") = some true)
    {C_Twice : Addr} (n_Twice : PySem.W.nsIn K mainGlobals "Twice" = some (some (.ref C_Twice))) (q_Twice : PySem.W.excIn K C_Twice bmV "ValueError.__new__" = true) (t_Twice : PySem.W.typeIn K (.ref C_Twice) = some (.type "type")) (b_Twice : PySem.W.mroIn K C_Twice (.type "BaseException") = some true) (g_Twice : PySem.W.findIn K (.ref C_Twice) "__getattribute__" = some (some (.builtin "BaseException.__getattribute__"))) (h_Twice : PySem.W.findIn K (.ref C_Twice) "__getattr__" = some none) (a_Twice : PySem.W.findIn K (.ref C_Twice) "__class__" = some (some (.builtin "object.__class__"))) (o_Twice : PySem.W.mroIn K C_Twice (.type "object") = some true)
    {C_Misfit : Addr} (n_Misfit : PySem.W.nsIn K mainGlobals "Misfit" = some (some (.ref C_Misfit))) (q_Misfit : PySem.W.excIn K C_Misfit bmV "ValueError.__new__" = true) (t_Misfit : PySem.W.typeIn K (.ref C_Misfit) = some (.type "type")) (b_Misfit : PySem.W.mroIn K C_Misfit (.type "BaseException") = some true) (g_Misfit : PySem.W.findIn K (.ref C_Misfit) "__getattribute__" = some (some (.builtin "BaseException.__getattribute__"))) (h_Misfit : PySem.W.findIn K (.ref C_Misfit) "__getattr__" = some none) (a_Misfit : PySem.W.findIn K (.ref C_Misfit) "__class__" = some (some (.builtin "object.__class__"))) (o_Misfit : PySem.W.mroIn K C_Misfit (.type "object") = some true)
    {C_NoRule : Addr} (n_NoRule : PySem.W.nsIn K mainGlobals "NoRule" = some (some (.ref C_NoRule))) (q_NoRule : PySem.W.excIn K C_NoRule bmV "ValueError.__new__" = true) (t_NoRule : PySem.W.typeIn K (.ref C_NoRule) = some (.type "type")) (b_NoRule : PySem.W.mroIn K C_NoRule (.type "BaseException") = some true) (g_NoRule : PySem.W.findIn K (.ref C_NoRule) "__getattribute__" = some (some (.builtin "BaseException.__getattribute__"))) (h_NoRule : PySem.W.findIn K (.ref C_NoRule) "__getattr__" = some none) (a_NoRule : PySem.W.findIn K (.ref C_NoRule) "__class__" = some (some (.builtin "object.__class__"))) (o_NoRule : PySem.W.mroIn K C_NoRule (.type "object") = some true)
    {C_NoWay : Addr} (n_NoWay : PySem.W.nsIn K mainGlobals "NoWay" = some (some (.ref C_NoWay))) (q_NoWay : PySem.W.excIn K C_NoWay bmV "ValueError.__new__" = true) (t_NoWay : PySem.W.typeIn K (.ref C_NoWay) = some (.type "type")) (b_NoWay : PySem.W.mroIn K C_NoWay (.type "BaseException") = some true) (g_NoWay : PySem.W.findIn K (.ref C_NoWay) "__getattribute__" = some (some (.builtin "BaseException.__getattribute__"))) (h_NoWay : PySem.W.findIn K (.ref C_NoWay) "__getattr__" = some none) (a_NoWay : PySem.W.findIn K (.ref C_NoWay) "__class__" = some (some (.builtin "object.__class__"))) (o_NoWay : PySem.W.mroIn K C_NoWay (.type "object") = some true)
    {C_ThrongError : Addr} (n_ThrongError : PySem.W.nsIn K mainGlobals "ThrongError" = some (some (.ref C_ThrongError))) (q_ThrongError : PySem.W.excIn K C_ThrongError bmV "ValueError.__new__" = true) (t_ThrongError : PySem.W.typeIn K (.ref C_ThrongError) = some (.type "type")) (b_ThrongError : PySem.W.mroIn K C_ThrongError (.type "BaseException") = some true) (g_ThrongError : PySem.W.findIn K (.ref C_ThrongError) "__getattribute__" = some (some (.builtin "BaseException.__getattribute__"))) (h_ThrongError : PySem.W.findIn K (.ref C_ThrongError) "__getattr__" = some none) (a_ThrongError : PySem.W.findIn K (.ref C_ThrongError) "__class__" = some (some (.builtin "object.__class__"))) (o_ThrongError : PySem.W.mroIn K C_ThrongError (.type "object") = some true)
    {C_NoDoor : Addr} (n_NoDoor : PySem.W.nsIn K mainGlobals "NoDoor" = some (some (.ref C_NoDoor))) (q_NoDoor : PySem.W.excIn K C_NoDoor bmV "ValueError.__new__" = true) (t_NoDoor : PySem.W.typeIn K (.ref C_NoDoor) = some (.type "type")) (b_NoDoor : PySem.W.mroIn K C_NoDoor (.type "BaseException") = some true) (g_NoDoor : PySem.W.findIn K (.ref C_NoDoor) "__getattribute__" = some (some (.builtin "BaseException.__getattribute__"))) (h_NoDoor : PySem.W.findIn K (.ref C_NoDoor) "__getattr__" = some none) (a_NoDoor : PySem.W.findIn K (.ref C_NoDoor) "__class__" = some (some (.builtin "object.__class__"))) (o_NoDoor : PySem.W.mroIn K C_NoDoor (.type "object") = some true)
    {C_NoHouse : Addr} (n_NoHouse : PySem.W.nsIn K mainGlobals "NoHouse" = some (some (.ref C_NoHouse))) (q_NoHouse : PySem.W.excIn K C_NoHouse bmV "ValueError.__new__" = true) (t_NoHouse : PySem.W.typeIn K (.ref C_NoHouse) = some (.type "type")) (b_NoHouse : PySem.W.mroIn K C_NoHouse (.type "BaseException") = some true) (g_NoHouse : PySem.W.findIn K (.ref C_NoHouse) "__getattribute__" = some (some (.builtin "BaseException.__getattribute__"))) (h_NoHouse : PySem.W.findIn K (.ref C_NoHouse) "__getattr__" = some none) (a_NoHouse : PySem.W.findIn K (.ref C_NoHouse) "__class__" = some (some (.builtin "object.__class__"))) (o_NoHouse : PySem.W.mroIn K C_NoHouse (.type "object") = some true)
    {C_NoLine : Addr} (n_NoLine : PySem.W.nsIn K mainGlobals "NoLine" = some (some (.ref C_NoLine))) (q_NoLine : PySem.W.excIn K C_NoLine bmV "ValueError.__new__" = true) (t_NoLine : PySem.W.typeIn K (.ref C_NoLine) = some (.type "type")) (b_NoLine : PySem.W.mroIn K C_NoLine (.type "BaseException") = some true) (g_NoLine : PySem.W.findIn K (.ref C_NoLine) "__getattribute__" = some (some (.builtin "BaseException.__getattribute__"))) (h_NoLine : PySem.W.findIn K (.ref C_NoLine) "__getattr__" = some none) (a_NoLine : PySem.W.findIn K (.ref C_NoLine) "__class__" = some (some (.builtin "object.__class__"))) (o_NoLine : PySem.W.mroIn K C_NoLine (.type "object") = some true)
    {C_BadWord : Addr} (n_BadWord : PySem.W.nsIn K mainGlobals "BadWord" = some (some (.ref C_BadWord))) (q_BadWord : PySem.W.excIn K C_BadWord bmV "ValueError.__new__" = true) (t_BadWord : PySem.W.typeIn K (.ref C_BadWord) = some (.type "type")) (b_BadWord : PySem.W.mroIn K C_BadWord (.type "BaseException") = some true) (g_BadWord : PySem.W.findIn K (.ref C_BadWord) "__getattribute__" = some (some (.builtin "BaseException.__getattribute__"))) (h_BadWord : PySem.W.findIn K (.ref C_BadWord) "__getattr__" = some none) (a_BadWord : PySem.W.findIn K (.ref C_BadWord) "__class__" = some (some (.builtin "object.__class__"))) (o_BadWord : PySem.W.mroIn K C_BadWord (.type "object") = some true)
    {C_Unlike : Addr} (n_Unlike : PySem.W.nsIn K mainGlobals "Unlike" = some (some (.ref C_Unlike))) (q_Unlike : PySem.W.excIn K C_Unlike bmV "ValueError.__new__" = true) (t_Unlike : PySem.W.typeIn K (.ref C_Unlike) = some (.type "type")) (b_Unlike : PySem.W.mroIn K C_Unlike (.type "BaseException") = some true) (g_Unlike : PySem.W.findIn K (.ref C_Unlike) "__getattribute__" = some (some (.builtin "BaseException.__getattribute__"))) (h_Unlike : PySem.W.findIn K (.ref C_Unlike) "__getattr__" = some none) (a_Unlike : PySem.W.findIn K (.ref C_Unlike) "__class__" = some (some (.builtin "object.__class__"))) (o_Unlike : PySem.W.mroIn K C_Unlike (.type "object") = some true)
    (sgt : PySem.W.specialIn K (.builtin "object.__class__") "__get__" = some (some (.builtin "getset_descriptor.__get__"))) (stk : PySem.W.takesIn K (.builtin "object.__class__") = some true)
    (v_NoField : PySem.W.mroIn K C_NoField (.type "ValueError") = some true)
    (m_NoField_Misfit : PySem.W.mroIn K C_NoField (.ref C_Misfit) = some false) (d_NoField_Misfit : C_NoField ≠ C_Misfit)
    (m_NoField_Twice : PySem.W.mroIn K C_NoField (.ref C_Twice) = some false) (d_NoField_Twice : C_NoField ≠ C_Twice)
    (m_NoField_NoField : PySem.W.mroIn K C_NoField (.ref C_NoField) = some true)
    (m_NoField_NoRule : PySem.W.mroIn K C_NoField (.ref C_NoRule) = some false) (d_NoField_NoRule : C_NoField ≠ C_NoRule)
    (m_NoField_NoWay : PySem.W.mroIn K C_NoField (.ref C_NoWay) = some false) (d_NoField_NoWay : C_NoField ≠ C_NoWay)
    (m_NoField_ThrongError : PySem.W.mroIn K C_NoField (.ref C_ThrongError) = some true)
    (m_NoField_NoDoor : PySem.W.mroIn K C_NoField (.ref C_NoDoor) = some false) (d_NoField_NoDoor : C_NoField ≠ C_NoDoor)
    (m_NoField_NoHouse : PySem.W.mroIn K C_NoField (.ref C_NoHouse) = some false) (d_NoField_NoHouse : C_NoField ≠ C_NoHouse)
    (m_NoField_NoLine : PySem.W.mroIn K C_NoField (.ref C_NoLine) = some false) (d_NoField_NoLine : C_NoField ≠ C_NoLine)
    (m_NoField_BadWord : PySem.W.mroIn K C_NoField (.ref C_BadWord) = some false) (d_NoField_BadWord : C_NoField ≠ C_BadWord)
    (m_NoField_Unlike : PySem.W.mroIn K C_NoField (.ref C_Unlike) = some false) (d_NoField_Unlike : C_NoField ≠ C_Unlike)
    (v_Twice : PySem.W.mroIn K C_Twice (.type "ValueError") = some true)
    (m_Twice_Misfit : PySem.W.mroIn K C_Twice (.ref C_Misfit) = some false) (d_Twice_Misfit : C_Twice ≠ C_Misfit)
    (m_Twice_Twice : PySem.W.mroIn K C_Twice (.ref C_Twice) = some true)
    (m_Twice_NoField : PySem.W.mroIn K C_Twice (.ref C_NoField) = some false) (d_Twice_NoField : C_Twice ≠ C_NoField)
    (m_Twice_NoRule : PySem.W.mroIn K C_Twice (.ref C_NoRule) = some false) (d_Twice_NoRule : C_Twice ≠ C_NoRule)
    (m_Twice_NoWay : PySem.W.mroIn K C_Twice (.ref C_NoWay) = some false) (d_Twice_NoWay : C_Twice ≠ C_NoWay)
    (m_Twice_ThrongError : PySem.W.mroIn K C_Twice (.ref C_ThrongError) = some true)
    (m_Twice_NoDoor : PySem.W.mroIn K C_Twice (.ref C_NoDoor) = some false) (d_Twice_NoDoor : C_Twice ≠ C_NoDoor)
    (m_Twice_NoHouse : PySem.W.mroIn K C_Twice (.ref C_NoHouse) = some false) (d_Twice_NoHouse : C_Twice ≠ C_NoHouse)
    (m_Twice_NoLine : PySem.W.mroIn K C_Twice (.ref C_NoLine) = some false) (d_Twice_NoLine : C_Twice ≠ C_NoLine)
    (m_Twice_BadWord : PySem.W.mroIn K C_Twice (.ref C_BadWord) = some false) (d_Twice_BadWord : C_Twice ≠ C_BadWord)
    (m_Twice_Unlike : PySem.W.mroIn K C_Twice (.ref C_Unlike) = some false) (d_Twice_Unlike : C_Twice ≠ C_Unlike)
    (v_Misfit : PySem.W.mroIn K C_Misfit (.type "ValueError") = some true)
    (m_Misfit_Misfit : PySem.W.mroIn K C_Misfit (.ref C_Misfit) = some true)
    (m_Misfit_Twice : PySem.W.mroIn K C_Misfit (.ref C_Twice) = some false) (d_Misfit_Twice : C_Misfit ≠ C_Twice)
    (m_Misfit_NoField : PySem.W.mroIn K C_Misfit (.ref C_NoField) = some false) (d_Misfit_NoField : C_Misfit ≠ C_NoField)
    (m_Misfit_NoRule : PySem.W.mroIn K C_Misfit (.ref C_NoRule) = some false) (d_Misfit_NoRule : C_Misfit ≠ C_NoRule)
    (m_Misfit_NoWay : PySem.W.mroIn K C_Misfit (.ref C_NoWay) = some false) (d_Misfit_NoWay : C_Misfit ≠ C_NoWay)
    (m_Misfit_ThrongError : PySem.W.mroIn K C_Misfit (.ref C_ThrongError) = some true)
    (m_Misfit_NoDoor : PySem.W.mroIn K C_Misfit (.ref C_NoDoor) = some false) (d_Misfit_NoDoor : C_Misfit ≠ C_NoDoor)
    (m_Misfit_NoHouse : PySem.W.mroIn K C_Misfit (.ref C_NoHouse) = some false) (d_Misfit_NoHouse : C_Misfit ≠ C_NoHouse)
    (m_Misfit_NoLine : PySem.W.mroIn K C_Misfit (.ref C_NoLine) = some false) (d_Misfit_NoLine : C_Misfit ≠ C_NoLine)
    (m_Misfit_BadWord : PySem.W.mroIn K C_Misfit (.ref C_BadWord) = some false) (d_Misfit_BadWord : C_Misfit ≠ C_BadWord)
    (m_Misfit_Unlike : PySem.W.mroIn K C_Misfit (.ref C_Unlike) = some false) (d_Misfit_Unlike : C_Misfit ≠ C_Unlike)
    : Top K mg where
  f_is_row := ⟨_, _, fun_mk (st := s_is_row) l0 c0 k0, PySem.W.mg_of X G a0⟩
  f_is_text_of := ⟨_, _, fun_mk (st := s_is_text_of) l1 c1 k1, PySem.W.mg_of X G a1⟩
  f_layout_width := ⟨_, _, fun_mk (st := s_layout_width) l2 c2 k2, PySem.W.mg_of X G a2⟩
  f_field_span := ⟨_, _, fun_mk (st := s_field_span) l3 c3 k3, PySem.W.mg_of X G a3⟩
  f_field_row := ⟨_, _, fun_mk (st := s_field_row) l4 c4 k4, PySem.W.mg_of X G a4⟩
  f__law_cell_at := ⟨_, _, fun_mk (st := s__law_cell_at) l5 c5 k5, PySem.W.mg_of X G a5⟩
  f__law_stream := ⟨_, _, fun_mk (st := s__law_stream) l6 c6 k6, PySem.W.mg_of X G a6⟩
  f__law_row := ⟨_, _, fun_mk (st := s__law_row) l7 c7 k7, PySem.W.mg_of X G a7⟩
  f__law_names := ⟨_, _, fun_mk (st := s__law_names) l8 c8 k8, PySem.W.mg_of X G a8⟩
  f__law_is_row := ⟨_, _, fun_mk (st := s__law_is_row) l9 c9 k9, PySem.W.mg_of X G a9⟩
  f__law_word := ⟨_, _, fun_mk (st := s__law_word) l10 c10 k10, PySem.W.mg_of X G a10⟩
  f__law_signs := ⟨_, _, fun_mk (st := s__law_signs) l11 c11 k11, PySem.W.mg_of X G a11⟩
  f__law_due := ⟨_, _, fun_mk (st := s__law_due) l12 c12 k12, PySem.W.mg_of X G a12⟩
  f__law_parts := ⟨_, _, fun_mk (st := s__law_parts) l13 c13 k13, PySem.W.mg_of X G a13⟩
  f_law := ⟨_, _, fun_mk (st := s_law) l14 c14 k14, PySem.W.mg_of X G a14⟩
  b_isinstance := PySem.W.mg_none_of X G z_isinstance
  b_str := PySem.W.mg_none_of X G z_str
  b_len := PySem.W.mg_none_of X G z_len
  b_sum := PySem.W.mg_none_of X G z_sum
  b_range := PySem.W.mg_none_of X G z_range
  b_ValueError := PySem.W.mg_none_of X G z_ValueError
  b_list := PySem.W.mg_none_of X G z_list
  b_tuple := PySem.W.mg_none_of X G z_tuple
  b_reversed := PySem.W.mg_none_of X G z_reversed
  x_NoField := xn_mk X G n_NoField q_NoField t_NoField b_NoField g_NoField h_NoField a_NoField o_NoField sgt stk
  x_Twice := xn_mk X G n_Twice q_Twice t_Twice b_Twice g_Twice h_Twice a_Twice o_Twice sgt stk
  x_Misfit := xn_mk X G n_Misfit q_Misfit t_Misfit b_Misfit g_Misfit h_Misfit a_Misfit o_Misfit sgt stk
  x_NoRule := xn_mk X G n_NoRule q_NoRule t_NoRule b_NoRule g_NoRule h_NoRule a_NoRule o_NoRule sgt stk
  x_NoWay := xn_mk X G n_NoWay q_NoWay t_NoWay b_NoWay g_NoWay h_NoWay a_NoWay o_NoWay sgt stk
  x_ThrongError := xn_mk X G n_ThrongError q_ThrongError t_ThrongError b_ThrongError g_ThrongError h_ThrongError a_ThrongError o_ThrongError sgt stk
  x_NoDoor := xn_mk X G n_NoDoor q_NoDoor t_NoDoor b_NoDoor g_NoDoor h_NoDoor a_NoDoor o_NoDoor sgt stk
  x_NoHouse := xn_mk X G n_NoHouse q_NoHouse t_NoHouse b_NoHouse g_NoHouse h_NoHouse a_NoHouse o_NoHouse sgt stk
  x_NoLine := xn_mk X G n_NoLine q_NoLine t_NoLine b_NoLine g_NoLine h_NoLine a_NoLine o_NoLine sgt stk
  x_BadWord := xn_mk X G n_BadWord q_BadWord t_BadWord b_BadWord g_BadWord h_BadWord a_BadWord o_BadWord sgt stk
  x_Unlike := xn_mk X G n_Unlike q_Unlike t_Unlike b_Unlike g_Unlike h_Unlike a_Unlike o_Unlike sgt stk
  v_NoField := xv_mk n_NoField v_NoField
  m_NoField_Misfit := xm_mk n_NoField n_Misfit m_NoField_Misfit (fun _ => d_NoField_Misfit)
  m_NoField_Twice := xm_mk n_NoField n_Twice m_NoField_Twice (fun _ => d_NoField_Twice)
  m_NoField_NoField := xm_mk n_NoField n_NoField m_NoField_NoField (fun z => nomatch z)
  m_NoField_NoRule := xm_mk n_NoField n_NoRule m_NoField_NoRule (fun _ => d_NoField_NoRule)
  m_NoField_NoWay := xm_mk n_NoField n_NoWay m_NoField_NoWay (fun _ => d_NoField_NoWay)
  m_NoField_ThrongError := xm_mk n_NoField n_ThrongError m_NoField_ThrongError (fun z => nomatch z)
  m_NoField_NoDoor := xm_mk n_NoField n_NoDoor m_NoField_NoDoor (fun _ => d_NoField_NoDoor)
  m_NoField_NoHouse := xm_mk n_NoField n_NoHouse m_NoField_NoHouse (fun _ => d_NoField_NoHouse)
  m_NoField_NoLine := xm_mk n_NoField n_NoLine m_NoField_NoLine (fun _ => d_NoField_NoLine)
  m_NoField_BadWord := xm_mk n_NoField n_BadWord m_NoField_BadWord (fun _ => d_NoField_BadWord)
  m_NoField_Unlike := xm_mk n_NoField n_Unlike m_NoField_Unlike (fun _ => d_NoField_Unlike)
  v_Twice := xv_mk n_Twice v_Twice
  m_Twice_Misfit := xm_mk n_Twice n_Misfit m_Twice_Misfit (fun _ => d_Twice_Misfit)
  m_Twice_Twice := xm_mk n_Twice n_Twice m_Twice_Twice (fun z => nomatch z)
  m_Twice_NoField := xm_mk n_Twice n_NoField m_Twice_NoField (fun _ => d_Twice_NoField)
  m_Twice_NoRule := xm_mk n_Twice n_NoRule m_Twice_NoRule (fun _ => d_Twice_NoRule)
  m_Twice_NoWay := xm_mk n_Twice n_NoWay m_Twice_NoWay (fun _ => d_Twice_NoWay)
  m_Twice_ThrongError := xm_mk n_Twice n_ThrongError m_Twice_ThrongError (fun z => nomatch z)
  m_Twice_NoDoor := xm_mk n_Twice n_NoDoor m_Twice_NoDoor (fun _ => d_Twice_NoDoor)
  m_Twice_NoHouse := xm_mk n_Twice n_NoHouse m_Twice_NoHouse (fun _ => d_Twice_NoHouse)
  m_Twice_NoLine := xm_mk n_Twice n_NoLine m_Twice_NoLine (fun _ => d_Twice_NoLine)
  m_Twice_BadWord := xm_mk n_Twice n_BadWord m_Twice_BadWord (fun _ => d_Twice_BadWord)
  m_Twice_Unlike := xm_mk n_Twice n_Unlike m_Twice_Unlike (fun _ => d_Twice_Unlike)
  v_Misfit := xv_mk n_Misfit v_Misfit
  m_Misfit_Misfit := xm_mk n_Misfit n_Misfit m_Misfit_Misfit (fun z => nomatch z)
  m_Misfit_Twice := xm_mk n_Misfit n_Twice m_Misfit_Twice (fun _ => d_Misfit_Twice)
  m_Misfit_NoField := xm_mk n_Misfit n_NoField m_Misfit_NoField (fun _ => d_Misfit_NoField)
  m_Misfit_NoRule := xm_mk n_Misfit n_NoRule m_Misfit_NoRule (fun _ => d_Misfit_NoRule)
  m_Misfit_NoWay := xm_mk n_Misfit n_NoWay m_Misfit_NoWay (fun _ => d_Misfit_NoWay)
  m_Misfit_ThrongError := xm_mk n_Misfit n_ThrongError m_Misfit_ThrongError (fun z => nomatch z)
  m_Misfit_NoDoor := xm_mk n_Misfit n_NoDoor m_Misfit_NoDoor (fun _ => d_Misfit_NoDoor)
  m_Misfit_NoHouse := xm_mk n_Misfit n_NoHouse m_Misfit_NoHouse (fun _ => d_Misfit_NoHouse)
  m_Misfit_NoLine := xm_mk n_Misfit n_NoLine m_Misfit_NoLine (fun _ => d_Misfit_NoLine)
  m_Misfit_BadWord := xm_mk n_Misfit n_BadWord m_Misfit_BadWord (fun _ => d_Misfit_BadWord)
  m_Misfit_Unlike := xm_mk n_Misfit n_Unlike m_Misfit_Unlike (fun _ => d_Misfit_Unlike)
theorem law_bind {P : Program} {w : World} {K : PySem.W.Frag} {mg : Str → Option Value} (T : Top K mg) : ∃ f fd, (∀ base : Heap, FnOk P w K mg base CX0 5 f fd ["_law_script"] (sp_law K)) ∧ (∀ (s : Shared) (u : Value), BindsTo s fd ⟨[u], []⟩ [("_law_script", u)]) ∧ mg "law" = some (.ref f) := by
  obtain ⟨f, fd, F, m⟩ := T.f_law
  refine ⟨f, fd, fun base => ok_law T F, ?_, m⟩
  obtain ⟨oc, od, kV, doc, pm, an, cdv, ct, osl, rfl, lk, hcd⟩ := F.ex
  exact fun s u => .of_eq rfl
theorem walk {l : PySem.W.OpenLaw} {q : Program} {loose : List Str} {XP : (Str → Option Value) → Heap → Prop} {α : Type} {Yf : Shared → α} {Ya : World → α} {d : DefRec} {K : Params → PySem.W.Frag} (hn : l.most = some 63) (hdf : d.params.defaults = [])
    (hY : ∀ (w : World) (s : Shared), Yf s = Ya w → (K w.params).In s.heap ∧ 0 < s.toks)
    (F : ∀ (w : World) (mg : Str → Option Value) (fa : Addr) (h : Heap), (K w.params).In h → h.Ns mainGlobals mg → mg d.name = some (.ref fa) →
      ∃ fd : FuncData, (∀ (s : Shared) (u : Value), BindsTo s fd ⟨[u], []⟩ [("_law_script", u)]) ∧ ∀ base : Heap, (K w.params).In base → base.Ns mainGlobals mg → FnOk l.prog w (K w.params) mg base CX0 5 fa fd ["_law_script"] (sp_law (K w.params))) :
    PySem.W.WalkX q loose XP Yf Ya l.row.toRowW d [] (fun f vs => PySem.call f vs) :=
  L2.walk_ofX (n := 63) (k := 5) (x := "_law_script") (CX := fun _ => CX0) (sp := fun w => sp_law (K w.params)) hn (by decide) hdf ⟨rfl, by decide, by decide, rfl⟩ hY F (fun _ _ a ns hl _ hS => ⟨ns, hS, hl, fun _ => rfl⟩) fun _ _ _ _ _ z => z
end Law
open PySem PySem.W PyProof.Rows
set_option maxRecDepth 100000 in
set_option maxHeartbeats 0 in
theorem PySem.Challenge.cw_throng_k16_rows_by_fields_holds : PySem.Challenge.rw_throng_k16_rows_by_fields.Holds := by
  w_on; o_law; z_head; (case hw => w_witness2)
  k_fill
  refine Law.walk (l := PySem.Challenge.rw_throng_k16_rows_by_fields) rfl rfl (fun w s Y => L2.z_pos Y (fun _ => rfl) (by decide)) ?F
  case F =>
    intro w mg fa h KX G hmg
    have T : Law.Top (L2.KOf KX) mg := by
      dsimp only [L2.KOf]
      refine' Law.all_mk KX G ?a0 ?l0 ?c0 ?k0 ?a1 ?l1 ?c1 ?k1 ?a2 ?l2 ?c2 ?k2 ?a3 ?l3 ?c3 ?k3 ?a4 ?l4 ?c4 ?k4 ?a5 ?l5 ?c5 ?k5 ?a6 ?l6 ?c6 ?k6 ?a7 ?l7 ?c7 ?k7 ?a8 ?l8 ?c8 ?k8 ?a9 ?l9 ?c9 ?k9 ?a10 ?l10 ?c10 ?k10 ?a11 ?l11 ?c11 ?k11 ?a12 ?l12 ?c12 ?k12 ?a13 ?l13 ?c13 ?k13 ?a14 ?l14 ?c14 ?k14 ?z_isinstance ?z_str ?z_len ?z_sum ?z_range ?z_ValueError ?z_list ?z_tuple ?z_reversed ?n_NoField ?q_NoField ?t_NoField ?b_NoField ?g_NoField ?h_NoField ?a_NoField ?o_NoField ?n_Twice ?q_Twice ?t_Twice ?b_Twice ?g_Twice ?h_Twice ?a_Twice ?o_Twice ?n_Misfit ?q_Misfit ?t_Misfit ?b_Misfit ?g_Misfit ?h_Misfit ?a_Misfit ?o_Misfit ?n_NoRule ?q_NoRule ?t_NoRule ?b_NoRule ?g_NoRule ?h_NoRule ?a_NoRule ?o_NoRule ?n_NoWay ?q_NoWay ?t_NoWay ?b_NoWay ?g_NoWay ?h_NoWay ?a_NoWay ?o_NoWay ?n_ThrongError ?q_ThrongError ?t_ThrongError ?b_ThrongError ?g_ThrongError ?h_ThrongError ?a_ThrongError ?o_ThrongError ?n_NoDoor ?q_NoDoor ?t_NoDoor ?b_NoDoor ?g_NoDoor ?h_NoDoor ?a_NoDoor ?o_NoDoor ?n_NoHouse ?q_NoHouse ?t_NoHouse ?b_NoHouse ?g_NoHouse ?h_NoHouse ?a_NoHouse ?o_NoHouse ?n_NoLine ?q_NoLine ?t_NoLine ?b_NoLine ?g_NoLine ?h_NoLine ?a_NoLine ?o_NoLine ?n_BadWord ?q_BadWord ?t_BadWord ?b_BadWord ?g_BadWord ?h_BadWord ?a_BadWord ?o_BadWord ?n_Unlike ?q_Unlike ?t_Unlike ?b_Unlike ?g_Unlike ?h_Unlike ?a_Unlike ?o_Unlike ?sgt ?stk ?v_NoField ?m_NoField_Misfit ?d_NoField_Misfit ?m_NoField_Twice ?d_NoField_Twice ?m_NoField_NoField ?m_NoField_NoRule ?d_NoField_NoRule ?m_NoField_NoWay ?d_NoField_NoWay ?m_NoField_ThrongError ?m_NoField_NoDoor ?d_NoField_NoDoor ?m_NoField_NoHouse ?d_NoField_NoHouse ?m_NoField_NoLine ?d_NoField_NoLine ?m_NoField_BadWord ?d_NoField_BadWord ?m_NoField_Unlike ?d_NoField_Unlike ?v_Twice ?m_Twice_Misfit ?d_Twice_Misfit ?m_Twice_Twice ?m_Twice_NoField ?d_Twice_NoField ?m_Twice_NoRule ?d_Twice_NoRule ?m_Twice_NoWay ?d_Twice_NoWay ?m_Twice_ThrongError ?m_Twice_NoDoor ?d_Twice_NoDoor ?m_Twice_NoHouse ?d_Twice_NoHouse ?m_Twice_NoLine ?d_Twice_NoLine ?m_Twice_BadWord ?d_Twice_BadWord ?m_Twice_Unlike ?d_Twice_Unlike ?v_Misfit ?m_Misfit_Misfit ?m_Misfit_Twice ?d_Misfit_Twice ?m_Misfit_NoField ?d_Misfit_NoField ?m_Misfit_NoRule ?d_Misfit_NoRule ?m_Misfit_NoWay ?d_Misfit_NoWay ?m_Misfit_ThrongError ?m_Misfit_NoDoor ?d_Misfit_NoDoor ?m_Misfit_NoHouse ?d_Misfit_NoHouse ?m_Misfit_NoLine ?d_Misfit_NoLine ?m_Misfit_BadWord ?d_Misfit_BadWord ?m_Misfit_Unlike ?d_Misfit_Unlike
      (case a0 => k_is); (case l0 => k_is); (case c0 => k_is); (case k0 => k_is)
      (case a1 => k_is); (case l1 => k_is); (case c1 => k_is); (case k1 => k_is)
      (case a2 => k_is); (case l2 => k_is); (case c2 => k_is); (case k2 => k_is)
      (case a3 => k_is); (case l3 => k_is); (case c3 => k_is); (case k3 => k_is)
      (case a4 => k_is); (case l4 => k_is); (case c4 => k_is); (case k4 => k_is)
      (case a5 => k_is); (case l5 => k_is); (case c5 => k_is); (case k5 => k_is)
      (case a6 => k_is); (case l6 => k_is); (case c6 => k_is); (case k6 => k_is)
      (case a7 => k_is); (case l7 => k_is); (case c7 => k_is); (case k7 => k_is)
      (case a8 => k_is); (case l8 => k_is); (case c8 => k_is); (case k8 => k_is)
      (case a9 => k_is); (case l9 => k_is); (case c9 => k_is); (case k9 => k_is)
      (case a10 => k_is); (case l10 => k_is); (case c10 => k_is); (case k10 => k_is)
      (case a11 => k_is); (case l11 => k_is); (case c11 => k_is); (case k11 => k_is)
      (case a12 => k_is); (case l12 => k_is); (case c12 => k_is); (case k12 => k_is)
      (case a13 => k_is); (case l13 => k_is); (case c13 => k_is); (case k13 => k_is)
      (case a14 => k_is); (case l14 => k_is); (case c14 => k_is); (case k14 => k_is)
      (case z_isinstance => k_is)
      (case z_str => k_is)
      (case z_len => k_is)
      (case z_sum => k_is)
      (case z_range => k_is)
      (case z_ValueError => k_is)
      (case z_list => k_is)
      (case z_tuple => k_is)
      (case z_reversed => k_is)
      (case n_NoField => k_is); (case q_NoField => k_exc); (case t_NoField => k_is); (case b_NoField => k_is); (case g_NoField => k_is); (case h_NoField => k_is); (case a_NoField => k_is); (case o_NoField => k_is)
      (case n_Twice => k_is); (case q_Twice => k_exc); (case t_Twice => k_is); (case b_Twice => k_is); (case g_Twice => k_is); (case h_Twice => k_is); (case a_Twice => k_is); (case o_Twice => k_is)
      (case n_Misfit => k_is); (case q_Misfit => k_exc); (case t_Misfit => k_is); (case b_Misfit => k_is); (case g_Misfit => k_is); (case h_Misfit => k_is); (case a_Misfit => k_is); (case o_Misfit => k_is)
      (case n_NoRule => k_is); (case q_NoRule => k_exc); (case t_NoRule => k_is); (case b_NoRule => k_is); (case g_NoRule => k_is); (case h_NoRule => k_is); (case a_NoRule => k_is); (case o_NoRule => k_is)
      (case n_NoWay => k_is); (case q_NoWay => k_exc); (case t_NoWay => k_is); (case b_NoWay => k_is); (case g_NoWay => k_is); (case h_NoWay => k_is); (case a_NoWay => k_is); (case o_NoWay => k_is)
      (case n_ThrongError => k_is); (case q_ThrongError => k_exc); (case t_ThrongError => k_is); (case b_ThrongError => k_is); (case g_ThrongError => k_is); (case h_ThrongError => k_is); (case a_ThrongError => k_is); (case o_ThrongError => k_is)
      (case n_NoDoor => k_is); (case q_NoDoor => k_exc); (case t_NoDoor => k_is); (case b_NoDoor => k_is); (case g_NoDoor => k_is); (case h_NoDoor => k_is); (case a_NoDoor => k_is); (case o_NoDoor => k_is)
      (case n_NoHouse => k_is); (case q_NoHouse => k_exc); (case t_NoHouse => k_is); (case b_NoHouse => k_is); (case g_NoHouse => k_is); (case h_NoHouse => k_is); (case a_NoHouse => k_is); (case o_NoHouse => k_is)
      (case n_NoLine => k_is); (case q_NoLine => k_exc); (case t_NoLine => k_is); (case b_NoLine => k_is); (case g_NoLine => k_is); (case h_NoLine => k_is); (case a_NoLine => k_is); (case o_NoLine => k_is)
      (case n_BadWord => k_is); (case q_BadWord => k_exc); (case t_BadWord => k_is); (case b_BadWord => k_is); (case g_BadWord => k_is); (case h_BadWord => k_is); (case a_BadWord => k_is); (case o_BadWord => k_is)
      (case n_Unlike => k_is); (case q_Unlike => k_exc); (case t_Unlike => k_is); (case b_Unlike => k_is); (case g_Unlike => k_is); (case h_Unlike => k_is); (case a_Unlike => k_is); (case o_Unlike => k_is)
      (case sgt => k_is); (case stk => k_is)
      (case v_NoField => k_is)
      (case m_NoField_Misfit => k_is); (case d_NoField_Misfit => decide)
      (case m_NoField_Twice => k_is); (case d_NoField_Twice => decide)
      (case m_NoField_NoField => k_is)
      (case m_NoField_NoRule => k_is); (case d_NoField_NoRule => decide)
      (case m_NoField_NoWay => k_is); (case d_NoField_NoWay => decide)
      (case m_NoField_ThrongError => k_is)
      (case m_NoField_NoDoor => k_is); (case d_NoField_NoDoor => decide)
      (case m_NoField_NoHouse => k_is); (case d_NoField_NoHouse => decide)
      (case m_NoField_NoLine => k_is); (case d_NoField_NoLine => decide)
      (case m_NoField_BadWord => k_is); (case d_NoField_BadWord => decide)
      (case m_NoField_Unlike => k_is); (case d_NoField_Unlike => decide)
      (case v_Twice => k_is)
      (case m_Twice_Misfit => k_is); (case d_Twice_Misfit => decide)
      (case m_Twice_Twice => k_is)
      (case m_Twice_NoField => k_is); (case d_Twice_NoField => decide)
      (case m_Twice_NoRule => k_is); (case d_Twice_NoRule => decide)
      (case m_Twice_NoWay => k_is); (case d_Twice_NoWay => decide)
      (case m_Twice_ThrongError => k_is)
      (case m_Twice_NoDoor => k_is); (case d_Twice_NoDoor => decide)
      (case m_Twice_NoHouse => k_is); (case d_Twice_NoHouse => decide)
      (case m_Twice_NoLine => k_is); (case d_Twice_NoLine => decide)
      (case m_Twice_BadWord => k_is); (case d_Twice_BadWord => decide)
      (case m_Twice_Unlike => k_is); (case d_Twice_Unlike => decide)
      (case v_Misfit => k_is)
      (case m_Misfit_Misfit => k_is)
      (case m_Misfit_Twice => k_is); (case d_Misfit_Twice => decide)
      (case m_Misfit_NoField => k_is); (case d_Misfit_NoField => decide)
      (case m_Misfit_NoRule => k_is); (case d_Misfit_NoRule => decide)
      (case m_Misfit_NoWay => k_is); (case d_Misfit_NoWay => decide)
      (case m_Misfit_ThrongError => k_is)
      (case m_Misfit_NoDoor => k_is); (case d_Misfit_NoDoor => decide)
      (case m_Misfit_NoHouse => k_is); (case d_Misfit_NoHouse => decide)
      (case m_Misfit_NoLine => k_is); (case d_Misfit_NoLine => decide)
      (case m_Misfit_BadWord => k_is); (case d_Misfit_BadWord => decide)
      (case m_Misfit_Unlike => k_is); (case d_Misfit_Unlike => decide)
    obtain ⟨f, fd, F, b, m⟩ := Law.law_bind (P := PySem.Challenge.pw_throng_k16_rows_by_fields) (w := w) T
    have e0 := hmg.symm.trans m
    cases e0
    exact ⟨fd, b, fun base _ _ => F base⟩
#print axioms PySem.Challenge.cw_throng_k16_rows_by_fields_holds
